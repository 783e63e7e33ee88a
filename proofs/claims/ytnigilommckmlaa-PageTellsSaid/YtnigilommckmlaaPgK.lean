/-
  The walk of PageTells.
-/
import Derived.Test.YtnigilommckmlaaPgJ
import Derived.Deep.CutRange
namespace Go.Proofs.Ytnigilommckmlaa.PgK
open Go.RowKit Go.Shelf Rd Go.Proofs.Ytnigilommckmlaa.Row Mid PgM PgA PgB PgC PgD PgE PgF PgG PgH PgI
open Go.Proofs.Ytnigilommckmlaa.Pred (Is is_stab Stab)
set_option linter.unusedVariables false
set_option linter.unusedSimpArgs false
set_option maxRecDepth 10000
theorem pg_take {w : World} {a : Option Addr} {r : PgM.Row} (k : Nat) (h : PgAt w a r) : PgAt w a (r.take k) := by
  refine ⟨fun v hv => h.1 v (List.mem_of_mem_take hv), ?_⟩
  rcases h.2 with h2 | ⟨b, o, e, hlt, hc⟩
  · left; rw [h2]; simp
  · refine .inr ⟨b, o, e, hlt, fun i hi j hj => ?_⟩
    rw [List.length_take] at hi
    have hi2 : i < r.length := by omega
    have e2 : at_ (r.take k) i = at_ r i := by rw [at_eq (by rw [List.length_take]; omega), at_eq hi2, List.getElem_take]
    rw [e2]
    exact hc i hi2 j hj
theorem cut_k {d : Int} {k : Nat} (hk : k ≤ (allV d).length) : cutV d k = (allV d).take k := by
  have e := all_len d
  unfold cutV cutB
  by_cases h : (k : Int) < countV d
  · rw [if_pos (by simpa using h)]
    rfl
  · rw [if_neg (by simpa using h), List.take_of_length_le (by omega)]
theorem lenU (d L X Y l : Int) : (upV d L X Y l).length = 3 := by unfold upV; split <;> rfl
theorem lenR (d : Int) : (rootV d).length = 3 := by unfold rootV; split <;> rfl
theorem lenA (d key : Int) : (atV d key).length = 3 := by
  unfold atV
  split
  · rename_i h
    have e := all_len d
    have hl : key.toNat < (allV d).length := by omega
    rw [at_eq hl]
    exact three_all d _ (List.getElem_mem _)
  · rfl
attribute [local go_sem ↓] store_pg eq_pg3
attribute [local go_sem] one_int pc3 run_store_pg rowStore_eq blk_alloc_at blk_alloc_old blk_drew blk_drewN blk_set_far blk_set_far' blk_grow setRow_alloc_at setRow_alloc_old setRow_drew setRow_drewN
set_option maxHeartbeats 16000000 in
theorem tells_gen (d p0 p1 p2 q0 q1 q2 key l most : Int) (W : World) (hm1 : -9223372036854775808 ≤ most) (hm2 : most ≤ 9223372036854775807) :
    Calls Try.prog 3 #[.int .i64 d, .agg #[.int .i64 p0, .int .i64 p1, .int .i64 p2], .agg #[.int .i64 q0, .int .i64 q1, .int .i64 q2], .int .i64 key, .int .i64 l, .int .i64 most] W fun e w' => e = .returned (.bool true) ∧ Below W.heap.size W w' := by
  obtain ⟨N, hN⟩ : ∃ N, (allV d).length = N := ⟨_, rfl⟩
  have hcount := all_len d
  have hsm := all_small d
  rw [hN] at hcount hsm
  have HN := Lib.hid hN
  obtain ⟨a0, a1, a2, eA⟩ := len3 (lenA d key)
  obtain ⟨u0, u1, u2, eU⟩ := len3 (lenU d p0 p1 p2 l)
  obtain ⟨r0, r1, r2, eR⟩ := len3 (lenR d)
  obtain ⟨is, eI⟩ : ∃ q, upB d p0 p1 p2 l = q := ⟨_, rfl⟩
  obtain ⟨q, eQ⟩ : ∃ q, atB d key = q := ⟨_, rfl⟩
  obtain ⟨x, ex⟩ : ∃ x, keyV d p0 p1 p2 = x := ⟨_, rfl⟩
  obtain ⟨y, ey⟩ : ∃ y, keyV d q0 q1 q2 = y := ⟨_, rfl⟩
  obtain ⟨vb, ev⟩ : ∃ v, validB d p0 p1 p2 = v := ⟨_, rfl⟩
  have CA : Hid (∀ X : World, Calls Try.prog 7 #[.int .i64 d, .int .i64 key] X fun e w' => e = .returned (.tuple #[.agg #[.int .i64 a0, .int .i64 a1, .int .i64 a2], .bool q]) ∧ Below X.heap.size X w') := fun X => by
    have := at_any d key X
    rw [eA, eQ] at this
    exact this
  have CU : Hid (∀ X : World, Calls Try.prog 8 #[.int .i64 d, .agg #[.int .i64 p0, .int .i64 p1, .int .i64 p2], .int .i64 l] X fun e w' => e = .returned (.tuple #[.agg #[.int .i64 u0, .int .i64 u1, .int .i64 u2], .bool is]) ∧ Below X.heap.size X w') := fun X => by
    have := up_any d p0 p1 p2 l X
    rw [eU, eI] at this
    exact this
  have CW : Hid (∀ X : World, Calls Try.prog 9 #[.int .i64 d, .agg #[.int .i64 p0, .int .i64 p1, .int .i64 p2], .int .i64 l] X fun e w' => e = .returned (.tuple #[.agg #[.int .i64 u0, .int .i64 u1, .int .i64 u2], .bool is]) ∧ Below X.heap.size X w') := fun X => by
    have := rup_any d p0 p1 p2 l X
    rw [eU, eI] at this
    exact this
  have CP : Hid (∀ X : World, Calls Try.prog 11 #[.int .i64 d, .agg #[.int .i64 p0, .int .i64 p1, .int .i64 p2]] X fun e w' => e = .returned (.int .i64 x) ∧ Below X.heap.size X w') := fun X => by
    have := rkey_any d p0 p1 p2 X
    rw [ex] at this
    exact this
  have CQ : Hid (∀ X : World, Calls Try.prog 11 #[.int .i64 d, .agg #[.int .i64 q0, .int .i64 q1, .int .i64 q2]] X fun e w' => e = .returned (.int .i64 y) ∧ Below X.heap.size X w') := fun X => by
    have := rkey_any d q0 q1 q2 X
    rw [ey] at this
    exact this
  have CC : Hid (∀ X : World, Calls Try.prog 12 #[.int .i64 d, .agg #[.int .i64 p0, .int .i64 p1, .int .i64 p2], .agg #[.int .i64 q0, .int .i64 q1, .int .i64 q2]] X fun e w' => e = .returned (.int .i64 (cmpV x y)) ∧ Below X.heap.size X w') := fun X => by
    have := cmp_any d p0 p1 p2 q0 q1 q2 X
    rw [ex, ey] at this
    exact this
  have CK : Hid (∀ X : World, Calls Try.prog 15 #[.int .i64 d, .agg #[.int .i64 p0, .int .i64 p1, .int .i64 p2]] X fun e w' => e = .returned (.int .i64 x) ∧ Below X.heap.size X w') := fun X => by
    have := key_any d p0 p1 p2 X
    rw [ex] at this
    exact this
  have CV : Hid (∀ X : World, Calls Try.prog 13 #[.int .i64 d, .agg #[.int .i64 p0, .int .i64 p1, .int .i64 p2]] X fun e w' => e = .returned (.bool vb) ∧ Below X.heap.size X w') := fun X => by
    have := valid_any d p0 p1 p2 X
    rw [ev] at this
    exact this
  have CVR : Hid (∀ X : World, Calls Try.prog 14 #[.int .i64 d, .agg #[.int .i64 p0, .int .i64 p1, .int .i64 p2]] X fun e w' => e = .returned (.bool vb) ∧ Below X.heap.size X w') := fun X => by
    have := rvalid_any d p0 p1 p2 X
    rw [ev] at this
    exact this
  have CR : Hid (∀ X : World, Calls Try.prog 17 #[.int .i64 d] X fun e w' => e = .returned (.agg #[.int .i64 r0, .int .i64 r1, .int .i64 r2]) ∧ Below X.heap.size X w') := fun X => by
    have := root_any d X
    rw [eR] at this
    exact this
  have CRR : Hid (∀ X : World, Calls Try.prog 18 #[.int .i64 d] X fun e w' => e = .returned (.agg #[.int .i64 r0, .int .i64 r1, .int .i64 r2]) ∧ Below X.heap.size X w') := fun X => by
    have := rroot_any d X
    rw [eR] at this
    exact this
  have CN : Hid (∀ X : World, Calls Try.prog 16 #[.int .i64 d] X fun e w' => e = .returned (.int .i64 N) ∧ Below X.heap.size X w') := fun X => by
    have := count_any d X
    rw [← hcount] at this
    exact this
  have CL : Hid (∀ X : World, Calls Try.prog 20 #[.int .i64 d, .int .i64 (-1)] X fun e w' => (∃ v, e = .returned v ∧ SP N (allV d) v w') ∧ Below X.heap.size X w') := fun X => by
    refine (lall_any d (-1) X).mono ?_
    rintro e w' ⟨⟨a, c, he, hp⟩, hb⟩
    rw [cut_all, hN] at he
    rw [cut_all] at hp
    exact ⟨⟨_, he, a, c, rfl, hp⟩, hb⟩
  obtain ⟨kn, ek⟩ : ∃ k : Nat, most % ((N : Int) + 1) = k := ⟨(most % ((N : Int) + 1)).toNat, by have := Int.emod_nonneg most (b := (N : Int) + 1) (by omega); omega⟩
  have hkn : kn ≤ N := by have := Int.emod_lt_of_pos most (b := (N : Int) + 1) (by omega); omega
  have CLK : Hid (∀ X : World, Calls Try.prog 20 #[.int .i64 d, .int .i64 kn] X fun e w' => (∃ v, e = .returned v ∧ SP kn ((allV d).take kn) v w') ∧ Below X.heap.size X w') := fun X => by
    refine (lall_any d kn X).mono ?_
    rintro e w' ⟨⟨a, c, he, hp⟩, hb⟩
    rw [cut_k (by rw [hN]; exact hkn)] at he hp
    rw [List.length_take, hN, Nat.min_eq_left hkn] at he
    exact ⟨⟨_, he, a, c, rfl, hp⟩, hb⟩
  have FF : Hid (q = false → [a0, a1, a2] = [0, 0, 0]) := fun h => by
    rw [← eA]
    unfold atV
    rw [if_neg]
    intro hr
    have : atB d key = true := decide_eq_true hr
    rw [eQ, h] at this
    cases this
  have QB : Hid (q = decide (0 ≤ key ∧ key < (N : Int))) := by
    rw [hcount, ← eQ]
    rfl
  have AT : Hid (q = true → 0 ≤ key ∧ key.toNat < N ∧ at_ (allV d) key.toNat = [a0, a1, a2]) := fun h => by
    have hr : 0 ≤ key ∧ key < countV d := of_decide_eq_true (show atB d key = true by rw [eQ]; exact h)
    refine ⟨hr.1, by omega, ?_⟩
    rw [← eA]
    unfold atV
    rw [if_pos hr]
  clear hN hcount eA eU eR eI eQ ex ey ev
  go_enter Try.func3, Try.ntmps3
  go_wp2_with fail
  refine (rpages_any d _).mono ?_
  rintro e w1 ⟨⟨ad, cp, rfl, hcp, hcm, hP⟩, hb1⟩
  rw [HN.out] at hcp ⊢
  have s1 := hb1.size
  simp only [World.size_alloc] at s1
  have bP : blk w1 W.heap.size = some (.cells #[.int .i64 p0, .int .i64 p1, .int .i64 p2] 23 (0, 0)) := (blk_below hb1 _ (by simp; omega)).trans (blk2_0 _ _ _)
  have bQ : blk w1 (W.heap.size + 1) = some (.cells #[.int .i64 q0, .int .i64 q1, .int .i64 q2] 23 (0, 0)) := (blk_below hb1 _ (by simp)).trans (blk2_1 _ _ _)
  have HW1 := Lib.hid hP
  have L1 : Below W.heap.size W w1 := by repeat' (first | (with_reducible exact Below.refl _ _) | (with_reducible refine Rd.below_step ?_ (by assumption)) | (with_reducible refine Rd.below_alloc ?_ _) | (with_reducible refine Rd.below_drewN ?_ _) | (with_reducible refine Below.drew ?_) | (with_reducible refine Below.setCell ?_ ?_ _) | (with_reducible refine Rd.below_setRow ?_ ?_ _) | go_size | (simp only [World.size_alloc]; omega) | omega)
  clear hb1 hP
  go_wp2_with fail
  refine (CA.out _).mono ?_
  rintro e w2 ⟨rfl, hb2⟩
  replace bP := (blk_below hb2 _ (blk_lt bP)).trans bP
  replace bQ := (blk_below hb2 _ (blk_lt bQ)).trans bQ
  have HW2 := Lib.hid (PgAt.below (B := 0) HW1.out hb2)
  have L2 : Below W.heap.size W w2 := by repeat' (first | (with_reducible exact Below.refl _ _) | (with_reducible refine Rd.below_step ?_ (by assumption)) | (with_reducible refine Rd.below_alloc ?_ _) | (with_reducible refine Rd.below_drewN ?_ _) | (with_reducible refine Below.drew ?_) | (with_reducible refine Below.setCell ?_ ?_ _) | (with_reducible refine Rd.below_setRow ?_ ?_ _) | go_size | (simp only [World.size_alloc]; omega) | omega)
  clear hb2 L1 HW1 CA
  go_upto_region 3 with (fail)
  refine Rd.name_world ?_
  intro w3 hw
  have bA : blk w3 w2.heap.size = some (.cells #[.int .i64 a0, .int .i64 a1, .int .i64 a2] 23 (0, 0)) := by rw [hw]; exact blk_alloc_at _ _ _ rfl
  replace bP : blk w3 W.heap.size = some (.cells #[.int .i64 p0, .int .i64 p1, .int .i64 p2] 23 (0, 0)) := by rw [hw]; exact (blk_alloc_old _ _ _ (blk_lt bP)).trans bP
  replace bQ : blk w3 (W.heap.size + 1) = some (.cells #[.int .i64 q0, .int .i64 q1, .int .i64 q2] 23 (0, 0)) := by rw [hw]; exact (blk_alloc_old _ _ _ (blk_lt bQ)).trans bQ
  have HW3 : Hid (PgAt w3 ad (allV d)) := by
    rw [hw]
    exact Lib.hid (PgAt.below (B := 0) HW2.out (by repeat' (first | (with_reducible exact Below.refl _ _) | (with_reducible refine Rd.below_step ?_ (by assumption)) | (with_reducible refine Rd.below_alloc ?_ _) | (with_reducible refine Rd.below_drewN ?_ _) | (with_reducible refine Below.drew ?_) | (with_reducible refine Below.setCell ?_ ?_ _) | (with_reducible refine Rd.below_setRow ?_ ?_ _) | go_size | (simp only [World.size_alloc]; omega) | omega)))
  have L3 : Below W.heap.size W w3 := by
    rw [hw]
    repeat' (first | (with_reducible exact Below.refl _ _) | (with_reducible refine Rd.below_step ?_ (by assumption)) | (with_reducible refine Rd.below_alloc ?_ _) | (with_reducible refine Rd.below_drewN ?_ _) | (with_reducible refine Below.drew ?_) | (with_reducible refine Below.setCell ?_ ?_ _) | (with_reducible refine Rd.below_setRow ?_ ?_ _) | go_size | (simp only [World.size_alloc]; omega) | omega)
  obtain ⟨ba, hba⟩ : ∃ p, w2.heap.size = p := ⟨_, rfl⟩
  rw [hba] at bA ⊢
  clear hw hba L2 HW2
  have k0 : w3.cell? ⟨W.heap.size, 0, none⟩ = some (.int .i64 p0) := by rw [blk_cell bP]; rfl
  have k1 : w3.cell? ⟨W.heap.size, 1, none⟩ = some (.int .i64 p1) := by rw [blk_cell bP]; rfl
  have k2 : w3.cell? ⟨W.heap.size, 2, none⟩ = some (.int .i64 p2) := by rw [blk_cell bP]; rfl
  go_wp2_with fail
  refine (CU.out _).mono ?_
  rintro e w4 ⟨rfl, hb4⟩
  replace bP := (blk_below hb4 _ (blk_lt bP)).trans bP
  replace bQ := (blk_below hb4 _ (blk_lt bQ)).trans bQ
  replace bA := (blk_below hb4 _ (blk_lt bA)).trans bA
  have HW4 := Lib.hid (PgAt.below (B := 0) HW3.out hb4)
  have L4 : Below W.heap.size W w4 := by repeat' (first | (with_reducible exact Below.refl _ _) | (with_reducible refine Rd.below_step ?_ (by assumption)) | (with_reducible refine Rd.below_alloc ?_ _) | (with_reducible refine Rd.below_drewN ?_ _) | (with_reducible refine Below.drew ?_) | (with_reducible refine Below.setCell ?_ ?_ _) | (with_reducible refine Rd.below_setRow ?_ ?_ _) | go_size | (simp only [World.size_alloc]; omega) | omega)
  clear hb4 L3 HW3 CU k0 k1 k2
  go_upto_region 4 with (fail)
  refine Rd.name_world ?_
  intro w5 hw
  have bU : blk w5 w4.heap.size = some (.cells #[.int .i64 u0, .int .i64 u1, .int .i64 u2] 23 (0, 0)) := by rw [hw]; exact blk_alloc_at _ _ _ rfl
  replace bP : blk w5 W.heap.size = some (.cells #[.int .i64 p0, .int .i64 p1, .int .i64 p2] 23 (0, 0)) := by rw [hw]; exact (blk_alloc_old _ _ _ (blk_lt bP)).trans bP
  replace bQ : blk w5 (W.heap.size + 1) = some (.cells #[.int .i64 q0, .int .i64 q1, .int .i64 q2] 23 (0, 0)) := by rw [hw]; exact (blk_alloc_old _ _ _ (blk_lt bQ)).trans bQ
  replace bA : blk w5 ba = some (.cells #[.int .i64 a0, .int .i64 a1, .int .i64 a2] 23 (0, 0)) := by rw [hw]; exact (blk_alloc_old _ _ _ (blk_lt bA)).trans bA
  have HW5 : Hid (PgAt w5 ad (allV d)) := by
    rw [hw]
    exact Lib.hid (PgAt.below (B := 0) HW4.out (by repeat' (first | (with_reducible exact Below.refl _ _) | (with_reducible refine Rd.below_step ?_ (by assumption)) | (with_reducible refine Rd.below_alloc ?_ _) | (with_reducible refine Rd.below_drewN ?_ _) | (with_reducible refine Below.drew ?_) | (with_reducible refine Below.setCell ?_ ?_ _) | (with_reducible refine Rd.below_setRow ?_ ?_ _) | go_size | (simp only [World.size_alloc]; omega) | omega)))
  have L5 : Below W.heap.size W w5 := by
    rw [hw]
    repeat' (first | (with_reducible exact Below.refl _ _) | (with_reducible refine Rd.below_step ?_ (by assumption)) | (with_reducible refine Rd.below_alloc ?_ _) | (with_reducible refine Rd.below_drewN ?_ _) | (with_reducible refine Below.drew ?_) | (with_reducible refine Below.setCell ?_ ?_ _) | (with_reducible refine Rd.below_setRow ?_ ?_ _) | go_size | (simp only [World.size_alloc]; omega) | omega)
  obtain ⟨bu, hbu⟩ : ∃ p, w4.heap.size = p := ⟨_, rfl⟩
  rw [hbu] at bU ⊢
  clear hw hbu L4 HW4
  have k0 : w5.cell? ⟨W.heap.size, 0, none⟩ = some (.int .i64 p0) := by rw [blk_cell bP]; rfl
  have k1 : w5.cell? ⟨W.heap.size, 1, none⟩ = some (.int .i64 p1) := by rw [blk_cell bP]; rfl
  have k2 : w5.cell? ⟨W.heap.size, 2, none⟩ = some (.int .i64 p2) := by rw [blk_cell bP]; rfl
  go_wp2_with fail
  refine (CW.out _).mono ?_
  rintro e w4 ⟨rfl, hb4⟩
  replace bP := (blk_below hb4 _ (blk_lt bP)).trans bP
  replace bQ := (blk_below hb4 _ (blk_lt bQ)).trans bQ
  replace bA := (blk_below hb4 _ (blk_lt bA)).trans bA
  replace bU := (blk_below hb4 _ (blk_lt bU)).trans bU
  have HW4 := Lib.hid (PgAt.below (B := 0) HW5.out hb4)
  have L4 : Below W.heap.size W w4 := by repeat' (first | (with_reducible exact Below.refl _ _) | (with_reducible refine Rd.below_step ?_ (by assumption)) | (with_reducible refine Rd.below_alloc ?_ _) | (with_reducible refine Rd.below_drewN ?_ _) | (with_reducible refine Below.drew ?_) | (with_reducible refine Below.setCell ?_ ?_ _) | (with_reducible refine Rd.below_setRow ?_ ?_ _) | go_size | (simp only [World.size_alloc]; omega) | omega)
  clear hb4 L5 HW5 CW k0 k1 k2
  go_upto_region 5 with (fail)
  refine Rd.name_world ?_
  intro w5 hw
  have bV : blk w5 w4.heap.size = some (.cells #[.int .i64 u0, .int .i64 u1, .int .i64 u2] 23 (0, 0)) := by rw [hw]; exact blk_alloc_at _ _ _ rfl
  replace bP : blk w5 W.heap.size = some (.cells #[.int .i64 p0, .int .i64 p1, .int .i64 p2] 23 (0, 0)) := by rw [hw]; exact (blk_alloc_old _ _ _ (blk_lt bP)).trans bP
  replace bQ : blk w5 (W.heap.size + 1) = some (.cells #[.int .i64 q0, .int .i64 q1, .int .i64 q2] 23 (0, 0)) := by rw [hw]; exact (blk_alloc_old _ _ _ (blk_lt bQ)).trans bQ
  replace bA : blk w5 ba = some (.cells #[.int .i64 a0, .int .i64 a1, .int .i64 a2] 23 (0, 0)) := by rw [hw]; exact (blk_alloc_old _ _ _ (blk_lt bA)).trans bA
  replace bU : blk w5 bu = some (.cells #[.int .i64 u0, .int .i64 u1, .int .i64 u2] 23 (0, 0)) := by rw [hw]; exact (blk_alloc_old _ _ _ (blk_lt bU)).trans bU
  have HW5 : Hid (PgAt w5 ad (allV d)) := by
    rw [hw]
    exact Lib.hid (PgAt.below (B := 0) HW4.out (by repeat' (first | (with_reducible exact Below.refl _ _) | (with_reducible refine Rd.below_step ?_ (by assumption)) | (with_reducible refine Rd.below_alloc ?_ _) | (with_reducible refine Rd.below_drewN ?_ _) | (with_reducible refine Below.drew ?_) | (with_reducible refine Below.setCell ?_ ?_ _) | (with_reducible refine Rd.below_setRow ?_ ?_ _) | go_size | (simp only [World.size_alloc]; omega) | omega)))
  have L5 : Below W.heap.size W w5 := by
    rw [hw]
    repeat' (first | (with_reducible exact Below.refl _ _) | (with_reducible refine Rd.below_step ?_ (by assumption)) | (with_reducible refine Rd.below_alloc ?_ _) | (with_reducible refine Rd.below_drewN ?_ _) | (with_reducible refine Below.drew ?_) | (with_reducible refine Below.setCell ?_ ?_ _) | (with_reducible refine Rd.below_setRow ?_ ?_ _) | go_size | (simp only [World.size_alloc]; omega) | omega)
  obtain ⟨bv, hbv⟩ : ∃ p, w4.heap.size = p := ⟨_, rfl⟩
  rw [hbv] at bV ⊢
  clear hw hbv L4 HW4
  go_cut [20] from 47 to 54 (fun v wx => v = .bool q ∧ wx = w5)
  case first =>
    have hq := QB.out
    by_cases h0 : 0 ≤ key
    · by_cases h1 : key < (N : Int)
      · rw [decide_eq_true ⟨h0, h1⟩] at hq
        subst hq
        clear FF AT QB
        go_wp2
        go_meet
        case rel => exact ⟨rfl, rfl⟩
      · rw [decide_eq_false (fun h => h1 h.2)] at hq
        subst hq
        clear FF AT QB
        go_wp2
        go_meet
        case rel => exact ⟨rfl, rfl⟩
    · rw [decide_eq_false (fun h => h0 h.1)] at hq
      subst hq
      clear FF AT QB
      go_wp2
      go_meet
      case rel => exact ⟨rfl, rfl⟩
  case rest =>
  obtain ⟨rfl, rfl⟩ := hcut
  rename World => w5
  obtain ⟨ga, o, kk, hFT⟩ : ∃ (ga o kk : Nat), q = true → (ad = some ⟨ga, o, none⟩ ∧ key = (kk : Int) ∧ kk < N ∧ ga < w5.heap.size ∧ CX3 w5 ga o kk a0 a1 a2) := by
    cases hqq : q with
    | false => exact ⟨0, 0, 0, fun h => by cases h⟩
    | true =>
      obtain ⟨h1, h2, h3⟩ := AT.out hqq
      rcases HW5.out.2 with h | ⟨b, o, e, hlt, hc⟩
      · have := HN.out; rw [h] at this; simp at this; omega
      · refine ⟨b, o, key.toNat, fun _ => ⟨e, by omega, h2, hlt, ?_⟩⟩
        have hx := hc key.toNat (by rw [HN.out]; exact h2)
        rw [h3] at hx
        exact ⟨hx 0 (by omega), hx 1 (by omega), hx 2 (by omega)⟩
  have FT := Lib.hid hFT
  clear hFT AT QB
  have lP := blk_lt bP
  have lQ := blk_lt bQ
  have lA := blk_lt bA
  have lU := blk_lt bU
  have lV := blk_lt bV
  go_upto_region 6 with (fail)
  refine Pred.region_vals (Pred.Of [
      Is (bif q then (.bool true) else (.bool false)),
      Is (bif q then (.bool true) else (.bool false)),
      Is (.bool false),
      Is (.bool false),
      Is (bif q then (.bool true) else (.bool false)),
      Is (bif q then (.bool true) else (.bool false)),
      Is (bif q then (.agg #[.int .i64 a0, .int .i64 a1, .int .i64 a2]) else (undef)),
      Is (bif q then (.slice ad N cp) else (undef)),
      Is (bif q then (.int .i64 key) else (undef)),
      Is (bif q then (.pointer (some ⟨ga, o + kk * 3, none⟩)) else (undef)),
      Is (bif q then (.agg #[.int .i64 a0, .int .i64 a1, .int .i64 a2]) else (undef)),
      Is (bif q then (.bool false) else (undef)),
      Is (.bool false),
      Is (.bool false),
      Is (.bool false),
      Is (bif q then (.bool true) else (.bool false)),
      Is (bif q then (.bool false) else (.bool true)),
      Is (bif q then (.bool false) else (.bool true)),
      Is (bif q then (undef) else (.agg #[.int .i64 a0, .int .i64 a1, .int .i64 a2])),
      Is (bif q then (undef) else (.agg #[.int .i64 0, .int .i64 0, .int .i64 0])),
      Is (bif q then (undef) else (.bool false)),
      Is (.bool false),
      Is (.bool false)]) (by kernel_rfl) (by kernel_rfl) (by kernel_rfl) (Pred.of_stab ?_) ?_ ?_
  · exact ⟨is_stab _, is_stab _, is_stab _, is_stab _, is_stab _, is_stab _, is_stab _, is_stab _, is_stab _, is_stab _, is_stab _, is_stab _, is_stab _, is_stab _, is_stab _, is_stab _, is_stab _, is_stab _, is_stab _, is_stab _, is_stab _, is_stab _, is_stab _, trivial⟩
  · refine ⟨?_, ?_, ?_, ?_, ?_, ?_, ?_, ?_, ?_, ?_, ?_, ?_, ?_, ?_, ?_, ?_, ?_, ?_, ?_, ?_, ?_, ?_, ?_, trivial⟩
    · intro b X hE hd hn hV
      cases q
      case false =>
        have r15 : b.tmps[15]?.getD undef = .bool false := (hn 15 (by kernel_rfl)).trans rfl
        exact Pred.yields_run (v := .bool false) (Pred.wanted_none rfl) (by go_simp) ⟨Pred.ext_refl _ _, rfl⟩
      case true =>
        have r15 : b.tmps[15]?.getD undef = .bool true := (hn 15 (by kernel_rfl)).trans rfl
        exact Pred.yields_run (v := .bool true) (Pred.wanted_none rfl) (by go_simp) ⟨Pred.ext_refl _ _, rfl⟩
    · intro b X hE hd hn hV
      cases q
      case false =>
        have r20 : b.tmps[20]?.getD undef = .bool false := (hn 20 (by kernel_rfl)).trans rfl
        exact Pred.yields_run (v := .bool false) (Pred.wanted_none rfl) (by go_simp) ⟨Pred.ext_refl _ _, rfl⟩
      case true =>
        have r20 : b.tmps[20]?.getD undef = .bool true := (hn 20 (by kernel_rfl)).trans rfl
        exact Pred.yields_run (v := .bool true) (Pred.wanted_none rfl) (by go_simp) ⟨Pred.ext_refl _ _, rfl⟩
    · intro b X hE hd hn hV
      cases q
      case false =>
        have r55 : b.tmps[55]?.getD undef = .bool false := hV 0 _ 55 rfl rfl (Pred.waits_near (by kernel_rfl) (by kernel_rfl))
        have r56 : b.tmps[56]?.getD undef = .bool false := hV 1 _ 56 rfl rfl (Pred.waits_near (by kernel_rfl) (by kernel_rfl))
        exact Pred.yields_run (v := .bool false) (Pred.wanted_none rfl) (by go_simp) ⟨Pred.ext_refl _ _, rfl⟩
      case true =>
        have r55 : b.tmps[55]?.getD undef = .bool true := hV 0 _ 55 rfl rfl (Pred.waits_near (by kernel_rfl) (by kernel_rfl))
        have r56 : b.tmps[56]?.getD undef = .bool true := hV 1 _ 56 rfl rfl (Pred.waits_near (by kernel_rfl) (by kernel_rfl))
        exact Pred.yields_run (v := .bool false) (Pred.wanted_none rfl) (by go_simp) ⟨Pred.ext_refl _ _, rfl⟩
    · intro b X hE hd hn hV
      cases q
      case false =>
        have r57 : b.tmps[57]?.getD undef = .bool false := hV 2 _ 57 rfl rfl (Pred.waits_near (by kernel_rfl) (by kernel_rfl))
        exact Pred.yields_run (v := .bool false) (Pred.wanted_none rfl) (by go_simp) ⟨Pred.ext_refl _ _, rfl⟩
      case true =>
        have r57 : b.tmps[57]?.getD undef = .bool false := hV 2 _ 57 rfl rfl (Pred.waits_near (by kernel_rfl) (by kernel_rfl))
        exact Pred.yields_run (v := .bool false) (Pred.wanted_none rfl) (by go_simp) ⟨Pred.ext_refl _ _, rfl⟩
    · intro b X hE hd hn hV
      cases q
      case false =>
        have r20 : b.tmps[20]?.getD undef = .bool false := (hn 20 (by kernel_rfl)).trans rfl
        have r58 : b.tmps[58]?.getD undef = .bool false := hV 3 _ 58 rfl rfl (Pred.waits_near (by kernel_rfl) (by kernel_rfl))
        exact Pred.yields_run (v := .bool false) ((Pred.wanted_at (g := 3) (d := 58) (f := false) rfl rfl r58).trans rfl) (by go_simp) ⟨Pred.ext_refl _ _, rfl⟩
      case true =>
        have r20 : b.tmps[20]?.getD undef = .bool true := (hn 20 (by kernel_rfl)).trans rfl
        have r58 : b.tmps[58]?.getD undef = .bool false := hV 3 _ 58 rfl rfl (Pred.waits_near (by kernel_rfl) (by kernel_rfl))
        exact Pred.yields_run (v := .bool true) ((Pred.wanted_at (g := 3) (d := 58) (f := false) rfl rfl r58).trans rfl) (by go_simp) ⟨Pred.ext_refl _ _, rfl⟩
    · intro b X hE hd hn hV
      cases q
      case false =>
        have r59 : b.tmps[59]?.getD undef = .bool false := hV 4 _ 59 rfl rfl (Pred.waits_near (by kernel_rfl) (by kernel_rfl))
        have r58 : b.tmps[58]?.getD undef = .bool false := hV 3 _ 58 rfl rfl (Pred.waits_near (by kernel_rfl) (by kernel_rfl))
        exact Pred.yields_run (v := .bool false) ((Pred.wanted_at (g := 3) (d := 58) (f := false) rfl rfl r58).trans rfl) (by go_simp) ⟨Pred.ext_refl _ _, rfl⟩
      case true =>
        have r59 : b.tmps[59]?.getD undef = .bool true := hV 4 _ 59 rfl rfl (Pred.waits_near (by kernel_rfl) (by kernel_rfl))
        have r58 : b.tmps[58]?.getD undef = .bool false := hV 3 _ 58 rfl rfl (Pred.waits_near (by kernel_rfl) (by kernel_rfl))
        exact Pred.yields_run (v := .bool true) ((Pred.wanted_at (g := 3) (d := 58) (f := false) rfl rfl r58).trans rfl) (by go_simp) ⟨Pred.ext_refl _ _, rfl⟩
    · intro b X hE hd hn hV
      cases q
      case false =>
        have r60 : b.tmps[60]?.getD undef = .bool false := hV 5 _ 60 rfl rfl (Pred.waits_near (by kernel_rfl) (by kernel_rfl))
        exact Pred.yields_not ((Pred.wanted_at (g := 5) (d := 60) (f := true) rfl rfl r60).trans rfl) ⟨Pred.ext_refl _ _, rfl⟩
      case true =>
        have r14 : b.tmps[14]?.getD undef = .pointer (some ⟨ba, 0, none⟩) := (hn 14 (by kernel_rfl)).trans rfl
        have r60 : b.tmps[60]?.getD undef = .bool true := hV 5 _ 60 rfl rfl (Pred.waits_near (by kernel_rfl) (by kernel_rfl))
        have qA := (blk_below hE _ lA).trans bA
        have z0 : X.cell? ⟨ba, 0, none⟩ = some (.int .i64 a0) := by rw [blk_cell qA]; rfl
        have z1 : X.cell? ⟨ba, 1, none⟩ = some (.int .i64 a1) := by rw [blk_cell qA]; rfl
        have z2 : X.cell? ⟨ba, 2, none⟩ = some (.int .i64 a2) := by rw [blk_cell qA]; rfl
        exact Pred.yields_run (v := .agg #[.int .i64 a0, .int .i64 a1, .int .i64 a2]) ((Pred.wanted_at (g := 5) (d := 60) (f := true) rfl rfl r60).trans rfl) (by go_simp) ⟨Pred.ext_refl _ _, rfl⟩
    · intro b X hE hd hn hV
      cases q
      case false =>
        have r60 : b.tmps[60]?.getD undef = .bool false := hV 5 _ 60 rfl rfl (Pred.waits_near (by kernel_rfl) (by kernel_rfl))
        exact Pred.yields_not ((Pred.wanted_at (g := 5) (d := 60) (f := true) rfl rfl r60).trans rfl) ⟨Pred.ext_refl _ _, rfl⟩
      case true =>
        have r13 : b.tmps[13]?.getD undef = .slice ad N cp := (hn 13 (by kernel_rfl)).trans rfl
        have r60 : b.tmps[60]?.getD undef = .bool true := hV 5 _ 60 rfl rfl (Pred.waits_near (by kernel_rfl) (by kernel_rfl))
        exact Pred.yields_run (v := .slice ad N cp) ((Pred.wanted_at (g := 5) (d := 60) (f := true) rfl rfl r60).trans rfl) (by go_simp) ⟨Pred.ext_refl _ _, rfl⟩
    · intro b X hE hd hn hV
      cases q
      case false =>
        have r60 : b.tmps[60]?.getD undef = .bool false := hV 5 _ 60 rfl rfl (Pred.waits_near (by kernel_rfl) (by kernel_rfl))
        exact Pred.yields_not ((Pred.wanted_at (g := 5) (d := 60) (f := true) rfl rfl r60).trans rfl) ⟨Pred.ext_refl _ _, rfl⟩
      case true =>
        have r3 : b.tmps[3]?.getD undef = .int .i64 key := (hn 3 (by kernel_rfl)).trans rfl
        have r60 : b.tmps[60]?.getD undef = .bool true := hV 5 _ 60 rfl rfl (Pred.waits_near (by kernel_rfl) (by kernel_rfl))
        exact Pred.yields_run (v := .int .i64 key) ((Pred.wanted_at (g := 5) (d := 60) (f := true) rfl rfl r60).trans rfl) (by go_simp) ⟨Pred.ext_refl _ _, rfl⟩
    · intro b X hE hd hn hV
      cases q
      case false =>
        have r60 : b.tmps[60]?.getD undef = .bool false := hV 5 _ 60 rfl rfl (Pred.waits_near (by kernel_rfl) (by kernel_rfl))
        exact Pred.yields_not ((Pred.wanted_at (g := 5) (d := 60) (f := true) rfl rfl r60).trans rfl) ⟨Pred.ext_refl _ _, rfl⟩
      case true =>
        have r62 : b.tmps[62]?.getD undef = .slice ad N cp := hV 7 _ 62 rfl rfl (Pred.waits_near (by kernel_rfl) (by kernel_rfl))
        have r63 : b.tmps[63]?.getD undef = .int .i64 key := hV 8 _ 63 rfl rfl (Pred.waits_near (by kernel_rfl) (by kernel_rfl))
        have r60 : b.tmps[60]?.getD undef = .bool true := hV 5 _ 60 rfl rfl (Pred.waits_near (by kernel_rfl) (by kernel_rfl))
        obtain ⟨f1, f2, f3, f4, f5⟩ := FT.out rfl
        subst f1
        exact Pred.yields_run (v := .pointer (some ⟨ga, o + kk * 3, none⟩)) ((Pred.wanted_at (g := 5) (d := 60) (f := true) rfl rfl r60).trans rfl) (by go_simp) ⟨Pred.ext_refl _ _, rfl⟩
    · intro b X hE hd hn hV
      cases q
      case false =>
        have r60 : b.tmps[60]?.getD undef = .bool false := hV 5 _ 60 rfl rfl (Pred.waits_near (by kernel_rfl) (by kernel_rfl))
        exact Pred.yields_not ((Pred.wanted_at (g := 5) (d := 60) (f := true) rfl rfl r60).trans rfl) ⟨Pred.ext_refl _ _, rfl⟩
      case true =>
        have r64 : b.tmps[64]?.getD undef = .pointer (some ⟨ga, o + kk * 3, none⟩) := hV 9 _ 64 rfl rfl (Pred.waits_near (by kernel_rfl) (by kernel_rfl))
        have r60 : b.tmps[60]?.getD undef = .bool true := hV 5 _ 60 rfl rfl (Pred.waits_near (by kernel_rfl) (by kernel_rfl))
        obtain ⟨f1, f2, f3, f4, f5⟩ := FT.out rfl
        obtain ⟨z0, z1, z2⟩ := cx_below hE f4 f5
        clear f1
        exact Pred.yields_run (v := .agg #[.int .i64 a0, .int .i64 a1, .int .i64 a2]) ((Pred.wanted_at (g := 5) (d := 60) (f := true) rfl rfl r60).trans rfl) (by go_simp) ⟨Pred.ext_refl _ _, rfl⟩
    · intro b X hE hd hn hV
      cases q
      case false =>
        have r60 : b.tmps[60]?.getD undef = .bool false := hV 5 _ 60 rfl rfl (Pred.waits_near (by kernel_rfl) (by kernel_rfl))
        exact Pred.yields_not ((Pred.wanted_at (g := 5) (d := 60) (f := true) rfl rfl r60).trans rfl) ⟨Pred.ext_refl _ _, rfl⟩
      case true =>
        have r61 : b.tmps[61]?.getD undef = .agg #[.int .i64 a0, .int .i64 a1, .int .i64 a2] := hV 6 _ 61 rfl rfl (Pred.waits_near (by kernel_rfl) (by kernel_rfl))
        have r65 : b.tmps[65]?.getD undef = .agg #[.int .i64 a0, .int .i64 a1, .int .i64 a2] := hV 10 _ 65 rfl rfl (Pred.waits_near (by kernel_rfl) (by kernel_rfl))
        have r60 : b.tmps[60]?.getD undef = .bool true := hV 5 _ 60 rfl rfl (Pred.waits_near (by kernel_rfl) (by kernel_rfl))
        have d0 : eqL [a0, a1, a2] [a0, a1, a2] = true := decide_eq_true rfl
        exact Pred.yields_run (v := .bool false) ((Pred.wanted_at (g := 5) (d := 60) (f := true) rfl rfl r60).trans rfl) (by go_simp) ⟨Pred.ext_refl _ _, rfl⟩
    · intro b X hE hd hn hV
      cases q
      case false =>
        have r60 : b.tmps[60]?.getD undef = .bool false := hV 5 _ 60 rfl rfl (Pred.waits_near (by kernel_rfl) (by kernel_rfl))
        have r66 : b.tmps[66]?.getD undef = undef := hV 11 _ 66 rfl rfl (Pred.waits_near (by kernel_rfl) (by kernel_rfl))
        have r58 : b.tmps[58]?.getD undef = .bool false := hV 3 _ 58 rfl rfl (Pred.waits_near (by kernel_rfl) (by kernel_rfl))
        exact Pred.yields_run (v := .bool false) ((Pred.wanted_at (g := 3) (d := 58) (f := false) rfl rfl r58).trans rfl) (by go_simp) ⟨Pred.ext_refl _ _, rfl⟩
      case true =>
        have r60 : b.tmps[60]?.getD undef = .bool true := hV 5 _ 60 rfl rfl (Pred.waits_near (by kernel_rfl) (by kernel_rfl))
        have r66 : b.tmps[66]?.getD undef = .bool false := hV 11 _ 66 rfl rfl (Pred.waits_near (by kernel_rfl) (by kernel_rfl))
        have r58 : b.tmps[58]?.getD undef = .bool false := hV 3 _ 58 rfl rfl (Pred.waits_near (by kernel_rfl) (by kernel_rfl))
        exact Pred.yields_run (v := .bool false) ((Pred.wanted_at (g := 3) (d := 58) (f := false) rfl rfl r58).trans rfl) (by go_simp) ⟨Pred.ext_refl _ _, rfl⟩
    · intro b X hE hd hn hV
      cases q
      case false =>
        have r58 : b.tmps[58]?.getD undef = .bool false := hV 3 _ 58 rfl rfl (Pred.waits_near (by kernel_rfl) (by kernel_rfl))
        have r67 : b.tmps[67]?.getD undef = .bool false := hV 12 _ 67 rfl rfl (Pred.waits_near (by kernel_rfl) (by kernel_rfl))
        exact Pred.yields_run (v := .bool false) (Pred.wanted_none rfl) (by go_simp) ⟨Pred.ext_refl _ _, rfl⟩
      case true =>
        have r58 : b.tmps[58]?.getD undef = .bool false := hV 3 _ 58 rfl rfl (Pred.waits_near (by kernel_rfl) (by kernel_rfl))
        have r67 : b.tmps[67]?.getD undef = .bool false := hV 12 _ 67 rfl rfl (Pred.waits_near (by kernel_rfl) (by kernel_rfl))
        exact Pred.yields_run (v := .bool false) (Pred.wanted_none rfl) (by go_simp) ⟨Pred.ext_refl _ _, rfl⟩
    · intro b X hE hd hn hV
      cases q
      case false =>
        have r68 : b.tmps[68]?.getD undef = .bool false := hV 13 _ 68 rfl rfl (Pred.waits_near (by kernel_rfl) (by kernel_rfl))
        exact Pred.yields_run (v := .bool false) (Pred.wanted_none rfl) (by go_simp) ⟨Pred.ext_refl _ _, rfl⟩
      case true =>
        have r68 : b.tmps[68]?.getD undef = .bool false := hV 13 _ 68 rfl rfl (Pred.waits_near (by kernel_rfl) (by kernel_rfl))
        exact Pred.yields_run (v := .bool false) (Pred.wanted_none rfl) (by go_simp) ⟨Pred.ext_refl _ _, rfl⟩
    · intro b X hE hd hn hV
      cases q
      case false =>
        have r20 : b.tmps[20]?.getD undef = .bool false := (hn 20 (by kernel_rfl)).trans rfl
        have r69 : b.tmps[69]?.getD undef = .bool false := hV 14 _ 69 rfl rfl (Pred.waits_near (by kernel_rfl) (by kernel_rfl))
        exact Pred.yields_run (v := .bool false) ((Pred.wanted_at (g := 14) (d := 69) (f := false) rfl rfl r69).trans rfl) (by go_simp) ⟨Pred.ext_refl _ _, rfl⟩
      case true =>
        have r20 : b.tmps[20]?.getD undef = .bool true := (hn 20 (by kernel_rfl)).trans rfl
        have r69 : b.tmps[69]?.getD undef = .bool false := hV 14 _ 69 rfl rfl (Pred.waits_near (by kernel_rfl) (by kernel_rfl))
        exact Pred.yields_run (v := .bool true) ((Pred.wanted_at (g := 14) (d := 69) (f := false) rfl rfl r69).trans rfl) (by go_simp) ⟨Pred.ext_refl _ _, rfl⟩
    · intro b X hE hd hn hV
      cases q
      case false =>
        have r70 : b.tmps[70]?.getD undef = .bool false := hV 15 _ 70 rfl rfl (Pred.waits_near (by kernel_rfl) (by kernel_rfl))
        have r69 : b.tmps[69]?.getD undef = .bool false := hV 14 _ 69 rfl rfl (Pred.waits_near (by kernel_rfl) (by kernel_rfl))
        exact Pred.yields_run (v := .bool true) ((Pred.wanted_at (g := 14) (d := 69) (f := false) rfl rfl r69).trans rfl) (by go_simp) ⟨Pred.ext_refl _ _, rfl⟩
      case true =>
        have r70 : b.tmps[70]?.getD undef = .bool true := hV 15 _ 70 rfl rfl (Pred.waits_near (by kernel_rfl) (by kernel_rfl))
        have r69 : b.tmps[69]?.getD undef = .bool false := hV 14 _ 69 rfl rfl (Pred.waits_near (by kernel_rfl) (by kernel_rfl))
        exact Pred.yields_run (v := .bool false) ((Pred.wanted_at (g := 14) (d := 69) (f := false) rfl rfl r69).trans rfl) (by go_simp) ⟨Pred.ext_refl _ _, rfl⟩
    · intro b X hE hd hn hV
      cases q
      case false =>
        have r71 : b.tmps[71]?.getD undef = .bool true := hV 16 _ 71 rfl rfl (Pred.waits_near (by kernel_rfl) (by kernel_rfl))
        have r69 : b.tmps[69]?.getD undef = .bool false := hV 14 _ 69 rfl rfl (Pred.waits_near (by kernel_rfl) (by kernel_rfl))
        exact Pred.yields_run (v := .bool true) ((Pred.wanted_at (g := 14) (d := 69) (f := false) rfl rfl r69).trans rfl) (by go_simp) ⟨Pred.ext_refl _ _, rfl⟩
      case true =>
        have r71 : b.tmps[71]?.getD undef = .bool false := hV 16 _ 71 rfl rfl (Pred.waits_near (by kernel_rfl) (by kernel_rfl))
        have r69 : b.tmps[69]?.getD undef = .bool false := hV 14 _ 69 rfl rfl (Pred.waits_near (by kernel_rfl) (by kernel_rfl))
        exact Pred.yields_run (v := .bool false) ((Pred.wanted_at (g := 14) (d := 69) (f := false) rfl rfl r69).trans rfl) (by go_simp) ⟨Pred.ext_refl _ _, rfl⟩
    · intro b X hE hd hn hV
      cases q
      case false =>
        have r14 : b.tmps[14]?.getD undef = .pointer (some ⟨ba, 0, none⟩) := (hn 14 (by kernel_rfl)).trans rfl
        have r72 : b.tmps[72]?.getD undef = .bool true := hV 17 _ 72 rfl rfl (Pred.waits_near (by kernel_rfl) (by kernel_rfl))
        have qA := (blk_below hE _ lA).trans bA
        have z0 : X.cell? ⟨ba, 0, none⟩ = some (.int .i64 a0) := by rw [blk_cell qA]; rfl
        have z1 : X.cell? ⟨ba, 1, none⟩ = some (.int .i64 a1) := by rw [blk_cell qA]; rfl
        have z2 : X.cell? ⟨ba, 2, none⟩ = some (.int .i64 a2) := by rw [blk_cell qA]; rfl
        exact Pred.yields_run (v := .agg #[.int .i64 a0, .int .i64 a1, .int .i64 a2]) ((Pred.wanted_at (g := 17) (d := 72) (f := true) rfl rfl r72).trans rfl) (by go_simp) ⟨Pred.ext_refl _ _, rfl⟩
      case true =>
        have r72 : b.tmps[72]?.getD undef = .bool false := hV 17 _ 72 rfl rfl (Pred.waits_near (by kernel_rfl) (by kernel_rfl))
        exact Pred.yields_not ((Pred.wanted_at (g := 17) (d := 72) (f := true) rfl rfl r72).trans rfl) ⟨Pred.ext_refl _ _, rfl⟩
    · intro b X hE hd hn hV
      cases q
      case false =>
        have r72 : b.tmps[72]?.getD undef = .bool true := hV 17 _ 72 rfl rfl (Pred.waits_near (by kernel_rfl) (by kernel_rfl))
        exact Pred.yields_run (v := .agg #[.int .i64 0, .int .i64 0, .int .i64 0]) ((Pred.wanted_at (g := 17) (d := 72) (f := true) rfl rfl r72).trans rfl) (by go_simp) ⟨Pred.ext_refl _ _, rfl⟩
      case true =>
        have r72 : b.tmps[72]?.getD undef = .bool false := hV 17 _ 72 rfl rfl (Pred.waits_near (by kernel_rfl) (by kernel_rfl))
        exact Pred.yields_not ((Pred.wanted_at (g := 17) (d := 72) (f := true) rfl rfl r72).trans rfl) ⟨Pred.ext_refl _ _, rfl⟩
    · intro b X hE hd hn hV
      cases q
      case false =>
        have r73 : b.tmps[73]?.getD undef = .agg #[.int .i64 a0, .int .i64 a1, .int .i64 a2] := hV 18 _ 73 rfl rfl (Pred.waits_near (by kernel_rfl) (by kernel_rfl))
        have r74 : b.tmps[74]?.getD undef = .agg #[.int .i64 0, .int .i64 0, .int .i64 0] := hV 19 _ 74 rfl rfl (Pred.waits_near (by kernel_rfl) (by kernel_rfl))
        have r72 : b.tmps[72]?.getD undef = .bool true := hV 17 _ 72 rfl rfl (Pred.waits_near (by kernel_rfl) (by kernel_rfl))
        have d0 : eqL [a0, a1, a2] [0, 0, 0] = true := decide_eq_true (FF.out rfl)
        exact Pred.yields_run (v := .bool false) ((Pred.wanted_at (g := 17) (d := 72) (f := true) rfl rfl r72).trans rfl) (by go_simp) ⟨Pred.ext_refl _ _, rfl⟩
      case true =>
        have r72 : b.tmps[72]?.getD undef = .bool false := hV 17 _ 72 rfl rfl (Pred.waits_near (by kernel_rfl) (by kernel_rfl))
        exact Pred.yields_not ((Pred.wanted_at (g := 17) (d := 72) (f := true) rfl rfl r72).trans rfl) ⟨Pred.ext_refl _ _, rfl⟩
    · intro b X hE hd hn hV
      cases q
      case false =>
        have r72 : b.tmps[72]?.getD undef = .bool true := hV 17 _ 72 rfl rfl (Pred.waits_near (by kernel_rfl) (by kernel_rfl))
        have r75 : b.tmps[75]?.getD undef = .bool false := hV 20 _ 75 rfl rfl (Pred.waits_near (by kernel_rfl) (by kernel_rfl))
        have r69 : b.tmps[69]?.getD undef = .bool false := hV 14 _ 69 rfl rfl (Pred.waits_near (by kernel_rfl) (by kernel_rfl))
        exact Pred.yields_run (v := .bool false) ((Pred.wanted_at (g := 14) (d := 69) (f := false) rfl rfl r69).trans rfl) (by go_simp) ⟨Pred.ext_refl _ _, rfl⟩
      case true =>
        have r72 : b.tmps[72]?.getD undef = .bool false := hV 17 _ 72 rfl rfl (Pred.waits_near (by kernel_rfl) (by kernel_rfl))
        have r75 : b.tmps[75]?.getD undef = undef := hV 20 _ 75 rfl rfl (Pred.waits_near (by kernel_rfl) (by kernel_rfl))
        have r69 : b.tmps[69]?.getD undef = .bool false := hV 14 _ 69 rfl rfl (Pred.waits_near (by kernel_rfl) (by kernel_rfl))
        exact Pred.yields_run (v := .bool false) ((Pred.wanted_at (g := 14) (d := 69) (f := false) rfl rfl r69).trans rfl) (by go_simp) ⟨Pred.ext_refl _ _, rfl⟩
    · intro b X hE hd hn hV
      cases q
      case false =>
        have r69 : b.tmps[69]?.getD undef = .bool false := hV 14 _ 69 rfl rfl (Pred.waits_near (by kernel_rfl) (by kernel_rfl))
        have r76 : b.tmps[76]?.getD undef = .bool false := hV 21 _ 76 rfl rfl (Pred.waits_near (by kernel_rfl) (by kernel_rfl))
        exact Pred.yields_run (v := .bool false) (Pred.wanted_none rfl) (by go_simp) ⟨Pred.ext_refl _ _, rfl⟩
      case true =>
        have r69 : b.tmps[69]?.getD undef = .bool false := hV 14 _ 69 rfl rfl (Pred.waits_near (by kernel_rfl) (by kernel_rfl))
        have r76 : b.tmps[76]?.getD undef = .bool false := hV 21 _ 76 rfl rfl (Pred.waits_near (by kernel_rfl) (by kernel_rfl))
        exact Pred.yields_run (v := .bool false) (Pred.wanted_none rfl) (by go_simp) ⟨Pred.ext_refl _ _, rfl⟩
  intro v w6 hE hv
  have e0 : v 0 = bif q then (.bool true) else (.bool false) := hv 0 _ 55 rfl rfl
  have e1 : v 1 = bif q then (.bool true) else (.bool false) := hv 1 _ 56 rfl rfl
  have e2 : v 2 = .bool false := hv 2 _ 57 rfl rfl
  have e3 : v 3 = .bool false := hv 3 _ 58 rfl rfl
  have e4 : v 4 = bif q then (.bool true) else (.bool false) := hv 4 _ 59 rfl rfl
  have e5 : v 5 = bif q then (.bool true) else (.bool false) := hv 5 _ 60 rfl rfl
  have e6 : v 6 = bif q then (.agg #[.int .i64 a0, .int .i64 a1, .int .i64 a2]) else (undef) := hv 6 _ 61 rfl rfl
  have e7 : v 7 = bif q then (.slice ad N cp) else (undef) := hv 7 _ 62 rfl rfl
  have e8 : v 8 = bif q then (.int .i64 key) else (undef) := hv 8 _ 63 rfl rfl
  have e9 : v 9 = bif q then (.pointer (some ⟨ga, o + kk * 3, none⟩)) else (undef) := hv 9 _ 64 rfl rfl
  have e10 : v 10 = bif q then (.agg #[.int .i64 a0, .int .i64 a1, .int .i64 a2]) else (undef) := hv 10 _ 65 rfl rfl
  have e11 : v 11 = bif q then (.bool false) else (undef) := hv 11 _ 66 rfl rfl
  have e12 : v 12 = .bool false := hv 12 _ 67 rfl rfl
  have e13 : v 13 = .bool false := hv 13 _ 68 rfl rfl
  have e14 : v 14 = .bool false := hv 14 _ 69 rfl rfl
  have e15 : v 15 = bif q then (.bool true) else (.bool false) := hv 15 _ 70 rfl rfl
  have e16 : v 16 = bif q then (.bool false) else (.bool true) := hv 16 _ 71 rfl rfl
  have e17 : v 17 = bif q then (.bool false) else (.bool true) := hv 17 _ 72 rfl rfl
  have e18 : v 18 = bif q then (undef) else (.agg #[.int .i64 a0, .int .i64 a1, .int .i64 a2]) := hv 18 _ 73 rfl rfl
  have e19 : v 19 = bif q then (undef) else (.agg #[.int .i64 0, .int .i64 0, .int .i64 0]) := hv 19 _ 74 rfl rfl
  have e20 : v 20 = bif q then (undef) else (.bool false) := hv 20 _ 75 rfl rfl
  have e21 : v 21 = .bool false := hv 21 _ 76 rfl rfl
  have e22 : v 22 = .bool false := hv 22 _ 77 rfl rfl
  obtain ⟨g0, hg0⟩ : ∃ g : Value, (bif q then (.bool true) else (.bool false)) = g := ⟨_, rfl⟩
  rw [hg0] at e0
  obtain ⟨g1, hg1⟩ : ∃ g : Value, (bif q then (.bool true) else (.bool false)) = g := ⟨_, rfl⟩
  rw [hg1] at e1
  obtain ⟨g4, hg4⟩ : ∃ g : Value, (bif q then (.bool true) else (.bool false)) = g := ⟨_, rfl⟩
  rw [hg4] at e4
  obtain ⟨g5, hg5⟩ : ∃ g : Value, (bif q then (.bool true) else (.bool false)) = g := ⟨_, rfl⟩
  rw [hg5] at e5
  obtain ⟨g6, hg6⟩ : ∃ g : Value, (bif q then (.agg #[.int .i64 a0, .int .i64 a1, .int .i64 a2]) else (undef)) = g := ⟨_, rfl⟩
  rw [hg6] at e6
  obtain ⟨g7, hg7⟩ : ∃ g : Value, (bif q then (.slice ad N cp) else (undef)) = g := ⟨_, rfl⟩
  rw [hg7] at e7
  obtain ⟨g8, hg8⟩ : ∃ g : Value, (bif q then (.int .i64 key) else (undef)) = g := ⟨_, rfl⟩
  rw [hg8] at e8
  obtain ⟨g9, hg9⟩ : ∃ g : Value, (bif q then (.pointer (some ⟨ga, o + kk * 3, none⟩)) else (undef)) = g := ⟨_, rfl⟩
  rw [hg9] at e9
  obtain ⟨g10, hg10⟩ : ∃ g : Value, (bif q then (.agg #[.int .i64 a0, .int .i64 a1, .int .i64 a2]) else (undef)) = g := ⟨_, rfl⟩
  rw [hg10] at e10
  obtain ⟨g11, hg11⟩ : ∃ g : Value, (bif q then (.bool false) else (undef)) = g := ⟨_, rfl⟩
  rw [hg11] at e11
  obtain ⟨g15, hg15⟩ : ∃ g : Value, (bif q then (.bool true) else (.bool false)) = g := ⟨_, rfl⟩
  rw [hg15] at e15
  obtain ⟨g16, hg16⟩ : ∃ g : Value, (bif q then (.bool false) else (.bool true)) = g := ⟨_, rfl⟩
  rw [hg16] at e16
  obtain ⟨g17, hg17⟩ : ∃ g : Value, (bif q then (.bool false) else (.bool true)) = g := ⟨_, rfl⟩
  rw [hg17] at e17
  obtain ⟨g18, hg18⟩ : ∃ g : Value, (bif q then (undef) else (.agg #[.int .i64 a0, .int .i64 a1, .int .i64 a2])) = g := ⟨_, rfl⟩
  rw [hg18] at e18
  obtain ⟨g19, hg19⟩ : ∃ g : Value, (bif q then (undef) else (.agg #[.int .i64 0, .int .i64 0, .int .i64 0])) = g := ⟨_, rfl⟩
  rw [hg19] at e19
  obtain ⟨g20, hg20⟩ : ∃ g : Value, (bif q then (undef) else (.bool false)) = g := ⟨_, rfl⟩
  rw [hg20] at e20
  simp only [Pred.putsF_cons, Pred.putsF_nil, Nat.zero_add, Nat.reduceAdd, e0, e1, e2, e3, e4, e5, e6, e7, e8, e9, e10, e11, e12, e13, e14, e15, e16, e17, e18, e19, e20, e21, e22, Act.put, List.setIfInBounds_toArray, List.set_cons_zero, List.set_cons_succ]
  clear e0 e1 e2 e3 e4 e5 e6 e7 e8 e9 e10 e11 e12 e13 e14 e15 e16 e17 e18 e19 e20 e21 e22 hg0 hg1 hg4 hg5 hg6 hg7 hg8 hg9 hg10 hg11 hg15 hg16 hg17 hg18 hg19 hg20 hv
  replace bP := (blk_below hE _ (blk_lt bP)).trans bP
  replace bQ := (blk_below hE _ (blk_lt bQ)).trans bQ
  replace bA := (blk_below hE _ (blk_lt bA)).trans bA
  replace bU := (blk_below hE _ (blk_lt bU)).trans bU
  replace bV := (blk_below hE _ (blk_lt bV)).trans bV
  have L6 : Below W.heap.size W w6 := by repeat' (first | (with_reducible exact Below.refl _ _) | (with_reducible refine Rd.below_step ?_ (by assumption)) | (with_reducible refine Rd.below_alloc ?_ _) | (with_reducible refine Rd.below_drewN ?_ _) | (with_reducible refine Below.drew ?_) | (with_reducible refine Below.setCell ?_ ?_ _) | (with_reducible refine Rd.below_setRow ?_ ?_ _) | go_size | (simp only [World.size_alloc]; omega) | omega)
  have HW6 := Lib.hid (PgAt.below (B := 0) HW5.out hE)
  clear hE L5 HW5 FT FF lP lQ lA lU lV
  go_wp2_with fail
  refine (Alk.round_any most ((N : Int) + 1) _ hm1 hm2 (by omega) (by omega)).mono ?_
  rintro e w7 ⟨rfl, rfl⟩
  rw [ek]
  clear ek
  have lP := blk_lt bP
  have lQ := blk_lt bQ
  have lA := blk_lt bA
  have lU := blk_lt bU
  have lV := blk_lt bV
  go_upto_region 9 with (fail)
  refine Pred.region_vals (Pred.Of [
      Is (.int .i64 d),
      Is (.agg #[.int .i64 p0, .int .i64 p1, .int .i64 p2]),
      Is (.int .i64 x),
      Is (.int .i64 d),
      Is (.agg #[.int .i64 q0, .int .i64 q1, .int .i64 q2]),
      Is (.int .i64 y),
      Is (.int .i64 x),
      Is (.int .i64 y)]) (by kernel_rfl) (by kernel_rfl) (by kernel_rfl) (Pred.of_stab ?_) ?_ ?_
  · exact ⟨is_stab _, is_stab _, is_stab _, is_stab _, is_stab _, is_stab _, is_stab _, is_stab _, trivial⟩
  · refine ⟨?_, ?_, ?_, ?_, ?_, ?_, ?_, ?_, trivial⟩
    · intro b X hE hd hn hV
      have r0 : b.tmps[0]?.getD undef = .int .i64 d := (hn 0 (by kernel_rfl)).trans rfl
      exact Pred.yields_run (v := .int .i64 d) (Pred.wanted_none rfl) (by go_simp) ⟨Pred.ext_refl _ _, rfl⟩
    · intro b X hE hd hn hV
      have r7 : b.tmps[7]?.getD undef = .pointer (some ⟨W.heap.size, 0, none⟩) := (hn 7 (by kernel_rfl)).trans rfl
      have qP := (blk_below hE _ lP).trans bP
      have z0 : X.cell? ⟨W.heap.size, 0, none⟩ = some (.int .i64 p0) := by rw [blk_cell qP]; rfl
      have z1 : X.cell? ⟨W.heap.size, 1, none⟩ = some (.int .i64 p1) := by rw [blk_cell qP]; rfl
      have z2 : X.cell? ⟨W.heap.size, 2, none⟩ = some (.int .i64 p2) := by rw [blk_cell qP]; rfl
      exact Pred.yields_run (v := .agg #[.int .i64 p0, .int .i64 p1, .int .i64 p2]) (Pred.wanted_none rfl) (by go_simp) ⟨Pred.ext_refl _ _, rfl⟩
    · intro b X hE hd hn hV
      have r83 : b.tmps[83]?.getD undef = .int .i64 d := hV 0 _ 83 rfl rfl (Pred.waits_near (by kernel_rfl) (by kernel_rfl))
      have r84 : b.tmps[84]?.getD undef = .agg #[.int .i64 p0, .int .i64 p1, .int .i64 p2] := hV 1 _ 84 rfl rfl (Pred.waits_near (by kernel_rfl) (by kernel_rfl))
      refine Pred.yields_call (f := 11) (args := #[.int .i64 d, .agg #[.int .i64 p0, .int .i64 p1, .int .i64 p2]]) (Pred.wanted_none rfl) (by go_simp) ?_
      exact (CP.out _).mono fun e w2 ⟨he, hb⟩ => ⟨_, he, Pred.ext_below hb hE.size, rfl⟩
    · intro b X hE hd hn hV
      have r0 : b.tmps[0]?.getD undef = .int .i64 d := (hn 0 (by kernel_rfl)).trans rfl
      exact Pred.yields_run (v := .int .i64 d) (Pred.wanted_none rfl) (by go_simp) ⟨Pred.ext_refl _ _, rfl⟩
    · intro b X hE hd hn hV
      have r8 : b.tmps[8]?.getD undef = .pointer (some ⟨(W.heap.size + 1), 0, none⟩) := (hn 8 (by kernel_rfl)).trans rfl
      have qQ := (blk_below hE _ lQ).trans bQ
      have z0 : X.cell? ⟨(W.heap.size + 1), 0, none⟩ = some (.int .i64 q0) := by rw [blk_cell qQ]; rfl
      have z1 : X.cell? ⟨(W.heap.size + 1), 1, none⟩ = some (.int .i64 q1) := by rw [blk_cell qQ]; rfl
      have z2 : X.cell? ⟨(W.heap.size + 1), 2, none⟩ = some (.int .i64 q2) := by rw [blk_cell qQ]; rfl
      exact Pred.yields_run (v := .agg #[.int .i64 q0, .int .i64 q1, .int .i64 q2]) (Pred.wanted_none rfl) (by go_simp) ⟨Pred.ext_refl _ _, rfl⟩
    · intro b X hE hd hn hV
      have r86 : b.tmps[86]?.getD undef = .int .i64 d := hV 3 _ 86 rfl rfl (Pred.waits_near (by kernel_rfl) (by kernel_rfl))
      have r87 : b.tmps[87]?.getD undef = .agg #[.int .i64 q0, .int .i64 q1, .int .i64 q2] := hV 4 _ 87 rfl rfl (Pred.waits_near (by kernel_rfl) (by kernel_rfl))
      refine Pred.yields_call (f := 11) (args := #[.int .i64 d, .agg #[.int .i64 q0, .int .i64 q1, .int .i64 q2]]) (Pred.wanted_none rfl) (by go_simp) ?_
      exact (CQ.out _).mono fun e w2 ⟨he, hb⟩ => ⟨_, he, Pred.ext_below hb hE.size, rfl⟩
    · intro b X hE hd hn hV
      have r85 : b.tmps[85]?.getD undef = .int .i64 x := hV 2 _ 85 rfl rfl (Pred.waits_near (by kernel_rfl) (by kernel_rfl))
      exact Pred.yields_run (v := .int .i64 x) (Pred.wanted_none rfl) (by go_simp) ⟨Pred.ext_refl _ _, rfl⟩
    · intro b X hE hd hn hV
      have r88 : b.tmps[88]?.getD undef = .int .i64 y := hV 5 _ 88 rfl rfl (Pred.waits_near (by kernel_rfl) (by kernel_rfl))
      exact Pred.yields_run (v := .int .i64 y) (Pred.wanted_none rfl) (by go_simp) ⟨Pred.ext_refl _ _, rfl⟩
  intro v w8 hE hv
  have e0 : v 0 = .int .i64 d := hv 0 _ 83 rfl rfl
  have e1 : v 1 = .agg #[.int .i64 p0, .int .i64 p1, .int .i64 p2] := hv 1 _ 84 rfl rfl
  have e2 : v 2 = .int .i64 x := hv 2 _ 85 rfl rfl
  have e3 : v 3 = .int .i64 d := hv 3 _ 86 rfl rfl
  have e4 : v 4 = .agg #[.int .i64 q0, .int .i64 q1, .int .i64 q2] := hv 4 _ 87 rfl rfl
  have e5 : v 5 = .int .i64 y := hv 5 _ 88 rfl rfl
  have e6 : v 6 = .int .i64 x := hv 6 _ 22 rfl rfl
  have e7 : v 7 = .int .i64 y := hv 7 _ 23 rfl rfl
  simp only [Pred.putsF_cons, Pred.putsF_nil, Nat.zero_add, Nat.reduceAdd, e0, e1, e2, e3, e4, e5, e6, e7, Act.put, List.setIfInBounds_toArray, List.set_cons_zero, List.set_cons_succ]
  clear e0 e1 e2 e3 e4 e5 e6 e7 hv
  replace bP := (blk_below hE _ (blk_lt bP)).trans bP
  replace bQ := (blk_below hE _ (blk_lt bQ)).trans bQ
  replace bA := (blk_below hE _ (blk_lt bA)).trans bA
  replace bU := (blk_below hE _ (blk_lt bU)).trans bU
  replace bV := (blk_below hE _ (blk_lt bV)).trans bV
  have L8 : Below W.heap.size W w8 := by repeat' (first | (with_reducible exact Below.refl _ _) | (with_reducible refine Rd.below_step ?_ (by assumption)) | (with_reducible refine Rd.below_alloc ?_ _) | (with_reducible refine Rd.below_drewN ?_ _) | (with_reducible refine Below.drew ?_) | (with_reducible refine Below.setCell ?_ ?_ _) | (with_reducible refine Rd.below_setRow ?_ ?_ _) | go_size | (simp only [World.size_alloc]; omega) | omega)
  have HW8 := Lib.hid (PgAt.below (B := 0) HW6.out hE)
  clear hE L6 HW6 lP lQ lA lU lV CP CQ
  go_upto_region 10 with (fail)
  go_cut [94] from 89 to 93 (fun v wx => v = .bool (decide (0 ≤ x ∧ 0 ≤ y)) ∧ wx = w8)
  case first =>
    by_cases h0 : 0 ≤ x
    · by_cases h1 : 0 ≤ y
      · go_wp2
        go_meet
        case rel => exact ⟨congrArg Value.bool (decide_eq_true (p := 0 ≤ x ∧ 0 ≤ y) ⟨h0, h1⟩).symm, rfl⟩
      · go_wp2
        go_meet
        case rel => exact ⟨congrArg Value.bool (decide_eq_false (p := 0 ≤ x ∧ 0 ≤ y) fun h => by omega).symm, rfl⟩
    · go_wp2
      go_meet
      case rel => exact ⟨congrArg Value.bool (decide_eq_false (p := 0 ≤ x ∧ 0 ≤ y) fun h => by omega).symm, rfl⟩
  case rest =>
  obtain ⟨rfl, rfl⟩ := hcut
  rename World => w8
  obtain ⟨bb, hbb⟩ : ∃ b, decide (0 ≤ x ∧ 0 ≤ y) = b := ⟨_, rfl⟩
  rw [hbb]
  clear hbb
  go_upto_if 94 with (fail)
  go_cut [] from 95 to 106 (fun wx => Below w8.heap.size w8 wx)
  case first =>
    cases bb
    case false =>
      go_wp2
      go_meet
      case rel => exact Below.refl _ _
    case true =>
      have k0 : w8.cell? ⟨W.heap.size, 0, none⟩ = some (.int .i64 p0) := by rw [blk_cell bP]; rfl
      have k1 : w8.cell? ⟨W.heap.size, 1, none⟩ = some (.int .i64 p1) := by rw [blk_cell bP]; rfl
      have k2 : w8.cell? ⟨W.heap.size, 2, none⟩ = some (.int .i64 p2) := by rw [blk_cell bP]; rfl
      have j0 : w8.cell? ⟨W.heap.size + 1, 0, none⟩ = some (.int .i64 q0) := by rw [blk_cell bQ]; rfl
      have j1 : w8.cell? ⟨W.heap.size + 1, 1, none⟩ = some (.int .i64 q1) := by rw [blk_cell bQ]; rfl
      have j2 : w8.cell? ⟨W.heap.size + 1, 2, none⟩ = some (.int .i64 q2) := by rw [blk_cell bQ]; rfl
      by_cases hxy : x < y
      · have hyx : ¬ y < x := by omega
        have hc : cmpV x y = -1 := if_pos hxy
        rw [hc] at CC
        clear hc
        go_wp2_with fail
        refine (CC.out _).mono ?_
        rintro e w9 ⟨rfl, hb9⟩
        go_wp2
        go_meet
        case rel => exact hb9
      · by_cases hyx : y < x
        · have hc : cmpV x y = 1 := by unfold cmpV; rw [if_neg hxy, if_pos hyx]
          rw [hc] at CC
          clear hc
          go_wp2_with fail
          refine (CC.out _).mono ?_
          rintro e w9 ⟨rfl, hb9⟩
          go_wp2
          go_meet
          case rel => exact hb9
        · have hc : cmpV x y = 0 := by unfold cmpV; rw [if_neg hxy, if_neg hyx]
          rw [hc] at CC
          clear hc
          go_wp2_with fail
          refine (CC.out _).mono ?_
          rintro e w9 ⟨rfl, hb9⟩
          go_wp2
          go_meet
          case rel => exact hb9
  case rest =>
  rename World => wz
  replace bP := (blk_below hcut _ (blk_lt bP)).trans bP
  replace bQ := (blk_below hcut _ (blk_lt bQ)).trans bQ
  replace bA := (blk_below hcut _ (blk_lt bA)).trans bA
  replace bU := (blk_below hcut _ (blk_lt bU)).trans bU
  replace bV := (blk_below hcut _ (blk_lt bV)).trans bV
  have LZ : Below W.heap.size W wz := L8.trans (hcut.mono L8.size)
  have PW9 := Lib.hid (PgAt.below (B := 0) HW8.out hcut)
  have CPG : Hid (∀ a c X, PgAt X a (allV d) → PgAt X ad (allV d) → Calls Try.prog 19 #[.slice a N c, .slice ad N cp] X fun e w' => e = .returned (.bool true) ∧ Below X.heap.size X w') := fun a c X h h' => by
    have := pages_any (allV d) (allV d) a ad c cp X h h' (by rw [HN.out]; omega) (by rw [HN.out]; omega)
    rw [HN.out, decide_eq_true rfl] at this
    exact this
  have CPK : Hid (∀ a c X, PgAt X a ((allV d).take kn) → PgAt X ad ((allV d).take kn) → Calls Try.prog 19 #[.slice a kn c, .slice ad kn cp] X fun e w' => e = .returned (.bool true) ∧ Below X.heap.size X w') := fun a c X h h' => by
    have hl : ((allV d).take kn).length = kn := by rw [List.length_take, HN.out, Nat.min_eq_left hkn]
    have := pages_any ((allV d).take kn) ((allV d).take kn) a ad c cp X h h' (by rw [hl]; omega) (by rw [hl]; omega)
    rw [hl, decide_eq_true rfl] at this
    exact this
  have hkc : (kn : Int) ≤ (cp : Int) := by omega
  have dU : eqL [u0, u1, u2] [u0, u1, u2] = true := decide_eq_true rfl
  have dR : eqL [r0, r1, r2] [r0, r1, r2] = true := decide_eq_true rfl
  clear hcut HW8 L8 CC
  have lP := blk_lt bP
  have lQ := blk_lt bQ
  have lA := blk_lt bA
  have lU := blk_lt bU
  have lV := blk_lt bV
  go_upto_region 18 with (fail)
  refine Pred.region_vals (Pred.Of [
      Is (.int .i64 d),
      Is (.agg #[.int .i64 p0, .int .i64 p1, .int .i64 p2]),
      Is (.bool vb),
      Is (.int .i64 d),
      Is (.agg #[.int .i64 p0, .int .i64 p1, .int .i64 p2]),
      Is (.bool vb),
      Is (.bool true),
      Is (.bool true),
      Is (.int .i64 d),
      Is (.agg #[.int .i64 p0, .int .i64 p1, .int .i64 p2]),
      Is (.int .i64 x),
      Is (.int .i64 x),
      Is (.bool true),
      Is (.bool true),
      Is (.bool true),
      Is (.int .i64 d),
      Is (.int .i64 (N : Int)),
      Is (.slice ad N cp),
      Is (.int .i64 (N : Int)),
      Is (.bool true),
      Is (.bool true),
      Is (.bool true),
      Is (.agg #[.int .i64 u0, .int .i64 u1, .int .i64 u2]),
      Is (.agg #[.int .i64 u0, .int .i64 u1, .int .i64 u2]),
      Is (.bool true),
      Is (.bool true),
      Is (.bool true),
      Is (.bool is),
      Is (.bool is),
      Is (.bool true),
      Is (.bool true),
      Is (.bool true),
      Is (.int .i64 d),
      Is (.agg #[.int .i64 r0, .int .i64 r1, .int .i64 r2]),
      Is (.int .i64 d),
      Is (.agg #[.int .i64 r0, .int .i64 r1, .int .i64 r2]),
      Is (.bool true),
      Is (.bool true),
      Is (.bool true),
      Is (.int .i64 d),
      SP (N) (allV d),
      Is (.slice ad N cp),
      Is (.bool true),
      Is (.bool true),
      Is (.bool true),
      Is (.int .i64 d),
      Is (.int .i64 (kn : Int)),
      SP (kn) ((allV d).take kn),
      Is (.slice ad N cp),
      Is (.int .i64 (kn : Int)),
      Is (.slice ad kn cp),
      Is (.bool true),
      Is (.bool true),
      Is (.bool true),
      Is (.bool true),
      Is (.bool true),
      Is (.bool true)]) (by kernel_rfl) (by kernel_rfl) (by kernel_rfl) (Pred.of_stab ?_) ?_ ?_
  · exact ⟨is_stab _, is_stab _, is_stab _, is_stab _, is_stab _, is_stab _, is_stab _, is_stab _, is_stab _, is_stab _, is_stab _, is_stab _, is_stab _, is_stab _, is_stab _, is_stab _, is_stab _, is_stab _, is_stab _, is_stab _, is_stab _, is_stab _, is_stab _, is_stab _, is_stab _, is_stab _, is_stab _, is_stab _, is_stab _, is_stab _, is_stab _, is_stab _, is_stab _, is_stab _, is_stab _, is_stab _, is_stab _, is_stab _, is_stab _, is_stab _, sp_stab _ _, is_stab _, is_stab _, is_stab _, is_stab _, is_stab _, is_stab _, sp_stab _ _, is_stab _, is_stab _, is_stab _, is_stab _, is_stab _, is_stab _, is_stab _, is_stab _, is_stab _, trivial⟩
  · refine ⟨?_, ?_, ?_, ?_, ?_, ?_, ?_, ?_, ?_, ?_, ?_, ?_, ?_, ?_, ?_, ?_, ?_, ?_, ?_, ?_, ?_, ?_, ?_, ?_, ?_, ?_, ?_, ?_, ?_, ?_, ?_, ?_, ?_, ?_, ?_, ?_, ?_, ?_, ?_, ?_, ?_, ?_, ?_, ?_, ?_, ?_, ?_, ?_, ?_, ?_, ?_, ?_, ?_, ?_, ?_, ?_, ?_, trivial⟩
    · intro b X hE hd hn hV
      have r0 : b.tmps[0]?.getD undef = .int .i64 d := (hn 0 (by kernel_rfl)).trans rfl
      exact Pred.yields_run (v := .int .i64 d) (Pred.wanted_none rfl) (by go_simp) ⟨Pred.ext_refl _ _, rfl⟩
    · intro b X hE hd hn hV
      have r7 : b.tmps[7]?.getD undef = .pointer (some ⟨W.heap.size, 0, none⟩) := (hn 7 (by kernel_rfl)).trans rfl
      have qP := (blk_below hE _ lP).trans bP
      have z0 : X.cell? ⟨W.heap.size, 0, none⟩ = some (.int .i64 p0) := by rw [blk_cell qP]; rfl
      have z1 : X.cell? ⟨W.heap.size, 1, none⟩ = some (.int .i64 p1) := by rw [blk_cell qP]; rfl
      have z2 : X.cell? ⟨W.heap.size, 2, none⟩ = some (.int .i64 p2) := by rw [blk_cell qP]; rfl
      exact Pred.yields_run (v := .agg #[.int .i64 p0, .int .i64 p1, .int .i64 p2]) (Pred.wanted_none rfl) (by go_simp) ⟨Pred.ext_refl _ _, rfl⟩
    · intro b X hE hd hn hV
      have r107 : b.tmps[107]?.getD undef = .int .i64 d := hV 0 _ 107 rfl rfl (Pred.waits_near (by kernel_rfl) (by kernel_rfl))
      have r108 : b.tmps[108]?.getD undef = .agg #[.int .i64 p0, .int .i64 p1, .int .i64 p2] := hV 1 _ 108 rfl rfl (Pred.waits_near (by kernel_rfl) (by kernel_rfl))
      refine Pred.yields_call (f := 13) (args := #[.int .i64 d, .agg #[.int .i64 p0, .int .i64 p1, .int .i64 p2]]) (Pred.wanted_none rfl) (by go_simp) ?_
      exact (CV.out _).mono fun e w2 ⟨he, hb⟩ => ⟨_, he, Pred.ext_below hb hE.size, rfl⟩
    · intro b X hE hd hn hV
      have r0 : b.tmps[0]?.getD undef = .int .i64 d := (hn 0 (by kernel_rfl)).trans rfl
      exact Pred.yields_run (v := .int .i64 d) (Pred.wanted_none rfl) (by go_simp) ⟨Pred.ext_refl _ _, rfl⟩
    · intro b X hE hd hn hV
      have r7 : b.tmps[7]?.getD undef = .pointer (some ⟨W.heap.size, 0, none⟩) := (hn 7 (by kernel_rfl)).trans rfl
      have qP := (blk_below hE _ lP).trans bP
      have z0 : X.cell? ⟨W.heap.size, 0, none⟩ = some (.int .i64 p0) := by rw [blk_cell qP]; rfl
      have z1 : X.cell? ⟨W.heap.size, 1, none⟩ = some (.int .i64 p1) := by rw [blk_cell qP]; rfl
      have z2 : X.cell? ⟨W.heap.size, 2, none⟩ = some (.int .i64 p2) := by rw [blk_cell qP]; rfl
      exact Pred.yields_run (v := .agg #[.int .i64 p0, .int .i64 p1, .int .i64 p2]) (Pred.wanted_none rfl) (by go_simp) ⟨Pred.ext_refl _ _, rfl⟩
    · intro b X hE hd hn hV
      have r110 : b.tmps[110]?.getD undef = .int .i64 d := hV 3 _ 110 rfl rfl (Pred.waits_near (by kernel_rfl) (by kernel_rfl))
      have r111 : b.tmps[111]?.getD undef = .agg #[.int .i64 p0, .int .i64 p1, .int .i64 p2] := hV 4 _ 111 rfl rfl (Pred.waits_near (by kernel_rfl) (by kernel_rfl))
      refine Pred.yields_call (f := 14) (args := #[.int .i64 d, .agg #[.int .i64 p0, .int .i64 p1, .int .i64 p2]]) (Pred.wanted_none rfl) (by go_simp) ?_
      exact (CVR.out _).mono fun e w2 ⟨he, hb⟩ => ⟨_, he, Pred.ext_below hb hE.size, rfl⟩
    · intro b X hE hd hn hV
      have r109 : b.tmps[109]?.getD undef = .bool vb := hV 2 _ 109 rfl rfl (Pred.waits_near (by kernel_rfl) (by kernel_rfl))
      have r112 : b.tmps[112]?.getD undef = .bool vb := hV 5 _ 112 rfl rfl (Pred.waits_near (by kernel_rfl) (by kernel_rfl))
      exact Pred.yields_run (v := .bool true) (Pred.wanted_none rfl) (by go_simp) ⟨Pred.ext_refl _ _, rfl⟩
    · intro b X hE hd hn hV
      have r113 : b.tmps[113]?.getD undef = .bool true := hV 6 _ 113 rfl rfl (Pred.waits_near (by kernel_rfl) (by kernel_rfl))
      exact Pred.yields_run (v := .bool true) (Pred.wanted_none rfl) (by go_simp) ⟨Pred.ext_refl _ _, rfl⟩
    · intro b X hE hd hn hV
      have r0 : b.tmps[0]?.getD undef = .int .i64 d := (hn 0 (by kernel_rfl)).trans rfl
      have r114 : b.tmps[114]?.getD undef = .bool true := hV 7 _ 114 rfl rfl (Pred.waits_near (by kernel_rfl) (by kernel_rfl))
      exact Pred.yields_run (v := .int .i64 d) ((Pred.wanted_at (g := 7) (d := 114) (f := true) rfl rfl r114).trans rfl) (by go_simp) ⟨Pred.ext_refl _ _, rfl⟩
    · intro b X hE hd hn hV
      have r7 : b.tmps[7]?.getD undef = .pointer (some ⟨W.heap.size, 0, none⟩) := (hn 7 (by kernel_rfl)).trans rfl
      have r114 : b.tmps[114]?.getD undef = .bool true := hV 7 _ 114 rfl rfl (Pred.waits_near (by kernel_rfl) (by kernel_rfl))
      have qP := (blk_below hE _ lP).trans bP
      have z0 : X.cell? ⟨W.heap.size, 0, none⟩ = some (.int .i64 p0) := by rw [blk_cell qP]; rfl
      have z1 : X.cell? ⟨W.heap.size, 1, none⟩ = some (.int .i64 p1) := by rw [blk_cell qP]; rfl
      have z2 : X.cell? ⟨W.heap.size, 2, none⟩ = some (.int .i64 p2) := by rw [blk_cell qP]; rfl
      exact Pred.yields_run (v := .agg #[.int .i64 p0, .int .i64 p1, .int .i64 p2]) ((Pred.wanted_at (g := 7) (d := 114) (f := true) rfl rfl r114).trans rfl) (by go_simp) ⟨Pred.ext_refl _ _, rfl⟩
    · intro b X hE hd hn hV
      have r115 : b.tmps[115]?.getD undef = .int .i64 d := hV 8 _ 115 rfl rfl (Pred.waits_near (by kernel_rfl) (by kernel_rfl))
      have r116 : b.tmps[116]?.getD undef = .agg #[.int .i64 p0, .int .i64 p1, .int .i64 p2] := hV 9 _ 116 rfl rfl (Pred.waits_near (by kernel_rfl) (by kernel_rfl))
      have r114 : b.tmps[114]?.getD undef = .bool true := hV 7 _ 114 rfl rfl (Pred.waits_near (by kernel_rfl) (by kernel_rfl))
      refine Pred.yields_call (f := 15) (args := #[.int .i64 d, .agg #[.int .i64 p0, .int .i64 p1, .int .i64 p2]]) ((Pred.wanted_at (g := 7) (d := 114) (f := true) rfl rfl r114).trans rfl) (by go_simp) ?_
      exact (CK.out _).mono fun e w2 ⟨he, hb⟩ => ⟨_, he, Pred.ext_below hb hE.size, rfl⟩
    · intro b X hE hd hn hV
      have r22 : b.tmps[22]?.getD undef = .int .i64 x := (hn 22 (by kernel_rfl)).trans rfl
      have r114 : b.tmps[114]?.getD undef = .bool true := hV 7 _ 114 rfl rfl (Pred.waits_near (by kernel_rfl) (by kernel_rfl))
      exact Pred.yields_run (v := .int .i64 x) ((Pred.wanted_at (g := 7) (d := 114) (f := true) rfl rfl r114).trans rfl) (by go_simp) ⟨Pred.ext_refl _ _, rfl⟩
    · intro b X hE hd hn hV
      have r117 : b.tmps[117]?.getD undef = .int .i64 x := hV 10 _ 117 rfl rfl (Pred.waits_near (by kernel_rfl) (by kernel_rfl))
      have r118 : b.tmps[118]?.getD undef = .int .i64 x := hV 11 _ 118 rfl rfl (Pred.waits_near (by kernel_rfl) (by kernel_rfl))
      have r114 : b.tmps[114]?.getD undef = .bool true := hV 7 _ 114 rfl rfl (Pred.waits_near (by kernel_rfl) (by kernel_rfl))
      exact Pred.yields_run (v := .bool true) ((Pred.wanted_at (g := 7) (d := 114) (f := true) rfl rfl r114).trans rfl) (by go_simp) ⟨Pred.ext_refl _ _, rfl⟩
    · intro b X hE hd hn hV
      have r114 : b.tmps[114]?.getD undef = .bool true := hV 7 _ 114 rfl rfl (Pred.waits_near (by kernel_rfl) (by kernel_rfl))
      have r119 : b.tmps[119]?.getD undef = .bool true := hV 12 _ 119 rfl rfl (Pred.waits_near (by kernel_rfl) (by kernel_rfl))
      exact Pred.yields_run (v := .bool true) (Pred.wanted_none rfl) (by go_simp) ⟨Pred.ext_refl _ _, rfl⟩
    · intro b X hE hd hn hV
      have r120 : b.tmps[120]?.getD undef = .bool true := hV 13 _ 120 rfl rfl (Pred.waits_near (by kernel_rfl) (by kernel_rfl))
      exact Pred.yields_run (v := .bool true) (Pred.wanted_none rfl) (by go_simp) ⟨Pred.ext_refl _ _, rfl⟩
    · intro b X hE hd hn hV
      have r0 : b.tmps[0]?.getD undef = .int .i64 d := (hn 0 (by kernel_rfl)).trans rfl
      have r121 : b.tmps[121]?.getD undef = .bool true := hV 14 _ 121 rfl rfl (Pred.waits_near (by kernel_rfl) (by kernel_rfl))
      exact Pred.yields_run (v := .int .i64 d) ((Pred.wanted_at (g := 14) (d := 121) (f := true) rfl rfl r121).trans rfl) (by go_simp) ⟨Pred.ext_refl _ _, rfl⟩
    · intro b X hE hd hn hV
      have r122 : b.tmps[122]?.getD undef = .int .i64 d := hV 15 _ 122 rfl rfl (Pred.waits_near (by kernel_rfl) (by kernel_rfl))
      have r121 : b.tmps[121]?.getD undef = .bool true := hV 14 _ 121 rfl rfl (Pred.waits_near (by kernel_rfl) (by kernel_rfl))
      refine Pred.yields_call (f := 16) (args := #[.int .i64 d]) ((Pred.wanted_at (g := 14) (d := 121) (f := true) rfl rfl r121).trans rfl) (by go_simp) ?_
      exact (CN.out _).mono fun e w2 ⟨he, hb⟩ => ⟨_, he, Pred.ext_below hb hE.size, rfl⟩
    · intro b X hE hd hn hV
      have r13 : b.tmps[13]?.getD undef = .slice ad N cp := (hn 13 (by kernel_rfl)).trans rfl
      have r121 : b.tmps[121]?.getD undef = .bool true := hV 14 _ 121 rfl rfl (Pred.waits_near (by kernel_rfl) (by kernel_rfl))
      exact Pred.yields_run (v := .slice ad N cp) ((Pred.wanted_at (g := 14) (d := 121) (f := true) rfl rfl r121).trans rfl) (by go_simp) ⟨Pred.ext_refl _ _, rfl⟩
    · intro b X hE hd hn hV
      have r124 : b.tmps[124]?.getD undef = .slice ad N cp := hV 17 _ 124 rfl rfl (Pred.waits_near (by kernel_rfl) (by kernel_rfl))
      have r121 : b.tmps[121]?.getD undef = .bool true := hV 14 _ 121 rfl rfl (Pred.waits_near (by kernel_rfl) (by kernel_rfl))
      exact Pred.yields_run (v := .int .i64 (N : Int)) ((Pred.wanted_at (g := 14) (d := 121) (f := true) rfl rfl r121).trans rfl) (by go_simp) ⟨Pred.ext_refl _ _, rfl⟩
    · intro b X hE hd hn hV
      have r123 : b.tmps[123]?.getD undef = .int .i64 (N : Int) := hV 16 _ 123 rfl rfl (Pred.waits_near (by kernel_rfl) (by kernel_rfl))
      have r125 : b.tmps[125]?.getD undef = .int .i64 (N : Int) := hV 18 _ 125 rfl rfl (Pred.waits_near (by kernel_rfl) (by kernel_rfl))
      have r121 : b.tmps[121]?.getD undef = .bool true := hV 14 _ 121 rfl rfl (Pred.waits_near (by kernel_rfl) (by kernel_rfl))
      exact Pred.yields_run (v := .bool true) ((Pred.wanted_at (g := 14) (d := 121) (f := true) rfl rfl r121).trans rfl) (by go_simp) ⟨Pred.ext_refl _ _, rfl⟩
    · intro b X hE hd hn hV
      have r121 : b.tmps[121]?.getD undef = .bool true := hV 14 _ 121 rfl rfl (Pred.waits_near (by kernel_rfl) (by kernel_rfl))
      have r126 : b.tmps[126]?.getD undef = .bool true := hV 19 _ 126 rfl rfl (Pred.waits_near (by kernel_rfl) (by kernel_rfl))
      exact Pred.yields_run (v := .bool true) (Pred.wanted_none rfl) (by go_simp) ⟨Pred.ext_refl _ _, rfl⟩
    · intro b X hE hd hn hV
      have r127 : b.tmps[127]?.getD undef = .bool true := hV 20 _ 127 rfl rfl (Pred.waits_near (by kernel_rfl) (by kernel_rfl))
      exact Pred.yields_run (v := .bool true) (Pred.wanted_none rfl) (by go_simp) ⟨Pred.ext_refl _ _, rfl⟩
    · intro b X hE hd hn hV
      have r16 : b.tmps[16]?.getD undef = .pointer (some ⟨bu, 0, none⟩) := (hn 16 (by kernel_rfl)).trans rfl
      have r128 : b.tmps[128]?.getD undef = .bool true := hV 21 _ 128 rfl rfl (Pred.waits_near (by kernel_rfl) (by kernel_rfl))
      have qU := (blk_below hE _ lU).trans bU
      have z0 : X.cell? ⟨bu, 0, none⟩ = some (.int .i64 u0) := by rw [blk_cell qU]; rfl
      have z1 : X.cell? ⟨bu, 1, none⟩ = some (.int .i64 u1) := by rw [blk_cell qU]; rfl
      have z2 : X.cell? ⟨bu, 2, none⟩ = some (.int .i64 u2) := by rw [blk_cell qU]; rfl
      exact Pred.yields_run (v := .agg #[.int .i64 u0, .int .i64 u1, .int .i64 u2]) ((Pred.wanted_at (g := 21) (d := 128) (f := true) rfl rfl r128).trans rfl) (by go_simp) ⟨Pred.ext_refl _ _, rfl⟩
    · intro b X hE hd hn hV
      have r18 : b.tmps[18]?.getD undef = .pointer (some ⟨bv, 0, none⟩) := (hn 18 (by kernel_rfl)).trans rfl
      have r128 : b.tmps[128]?.getD undef = .bool true := hV 21 _ 128 rfl rfl (Pred.waits_near (by kernel_rfl) (by kernel_rfl))
      have qV := (blk_below hE _ lV).trans bV
      have z0 : X.cell? ⟨bv, 0, none⟩ = some (.int .i64 u0) := by rw [blk_cell qV]; rfl
      have z1 : X.cell? ⟨bv, 1, none⟩ = some (.int .i64 u1) := by rw [blk_cell qV]; rfl
      have z2 : X.cell? ⟨bv, 2, none⟩ = some (.int .i64 u2) := by rw [blk_cell qV]; rfl
      exact Pred.yields_run (v := .agg #[.int .i64 u0, .int .i64 u1, .int .i64 u2]) ((Pred.wanted_at (g := 21) (d := 128) (f := true) rfl rfl r128).trans rfl) (by go_simp) ⟨Pred.ext_refl _ _, rfl⟩
    · intro b X hE hd hn hV
      have r129 : b.tmps[129]?.getD undef = .agg #[.int .i64 u0, .int .i64 u1, .int .i64 u2] := hV 22 _ 129 rfl rfl (Pred.waits_near (by kernel_rfl) (by kernel_rfl))
      have r130 : b.tmps[130]?.getD undef = .agg #[.int .i64 u0, .int .i64 u1, .int .i64 u2] := hV 23 _ 130 rfl rfl (Pred.waits_near (by kernel_rfl) (by kernel_rfl))
      have r128 : b.tmps[128]?.getD undef = .bool true := hV 21 _ 128 rfl rfl (Pred.waits_near (by kernel_rfl) (by kernel_rfl))
      exact Pred.yields_run (v := .bool true) ((Pred.wanted_at (g := 21) (d := 128) (f := true) rfl rfl r128).trans rfl) (by go_simp) ⟨Pred.ext_refl _ _, rfl⟩
    · intro b X hE hd hn hV
      have r128 : b.tmps[128]?.getD undef = .bool true := hV 21 _ 128 rfl rfl (Pred.waits_near (by kernel_rfl) (by kernel_rfl))
      have r131 : b.tmps[131]?.getD undef = .bool true := hV 24 _ 131 rfl rfl (Pred.waits_near (by kernel_rfl) (by kernel_rfl))
      exact Pred.yields_run (v := .bool true) (Pred.wanted_none rfl) (by go_simp) ⟨Pred.ext_refl _ _, rfl⟩
    · intro b X hE hd hn hV
      have r132 : b.tmps[132]?.getD undef = .bool true := hV 25 _ 132 rfl rfl (Pred.waits_near (by kernel_rfl) (by kernel_rfl))
      exact Pred.yields_run (v := .bool true) (Pred.wanted_none rfl) (by go_simp) ⟨Pred.ext_refl _ _, rfl⟩
    · intro b X hE hd hn hV
      have r17 : b.tmps[17]?.getD undef = .bool is := (hn 17 (by kernel_rfl)).trans rfl
      have r133 : b.tmps[133]?.getD undef = .bool true := hV 26 _ 133 rfl rfl (Pred.waits_near (by kernel_rfl) (by kernel_rfl))
      exact Pred.yields_run (v := .bool is) ((Pred.wanted_at (g := 26) (d := 133) (f := true) rfl rfl r133).trans rfl) (by go_simp) ⟨Pred.ext_refl _ _, rfl⟩
    · intro b X hE hd hn hV
      have r19 : b.tmps[19]?.getD undef = .bool is := (hn 19 (by kernel_rfl)).trans rfl
      have r133 : b.tmps[133]?.getD undef = .bool true := hV 26 _ 133 rfl rfl (Pred.waits_near (by kernel_rfl) (by kernel_rfl))
      exact Pred.yields_run (v := .bool is) ((Pred.wanted_at (g := 26) (d := 133) (f := true) rfl rfl r133).trans rfl) (by go_simp) ⟨Pred.ext_refl _ _, rfl⟩
    · intro b X hE hd hn hV
      have r134 : b.tmps[134]?.getD undef = .bool is := hV 27 _ 134 rfl rfl (Pred.waits_near (by kernel_rfl) (by kernel_rfl))
      have r135 : b.tmps[135]?.getD undef = .bool is := hV 28 _ 135 rfl rfl (Pred.waits_near (by kernel_rfl) (by kernel_rfl))
      have r133 : b.tmps[133]?.getD undef = .bool true := hV 26 _ 133 rfl rfl (Pred.waits_near (by kernel_rfl) (by kernel_rfl))
      exact Pred.yields_run (v := .bool true) ((Pred.wanted_at (g := 26) (d := 133) (f := true) rfl rfl r133).trans rfl) (by go_simp) ⟨Pred.ext_refl _ _, rfl⟩
    · intro b X hE hd hn hV
      have r133 : b.tmps[133]?.getD undef = .bool true := hV 26 _ 133 rfl rfl (Pred.waits_near (by kernel_rfl) (by kernel_rfl))
      have r136 : b.tmps[136]?.getD undef = .bool true := hV 29 _ 136 rfl rfl (Pred.waits_near (by kernel_rfl) (by kernel_rfl))
      exact Pred.yields_run (v := .bool true) (Pred.wanted_none rfl) (by go_simp) ⟨Pred.ext_refl _ _, rfl⟩
    · intro b X hE hd hn hV
      have r137 : b.tmps[137]?.getD undef = .bool true := hV 30 _ 137 rfl rfl (Pred.waits_near (by kernel_rfl) (by kernel_rfl))
      exact Pred.yields_run (v := .bool true) (Pred.wanted_none rfl) (by go_simp) ⟨Pred.ext_refl _ _, rfl⟩
    · intro b X hE hd hn hV
      have r0 : b.tmps[0]?.getD undef = .int .i64 d := (hn 0 (by kernel_rfl)).trans rfl
      have r138 : b.tmps[138]?.getD undef = .bool true := hV 31 _ 138 rfl rfl (Pred.waits_near (by kernel_rfl) (by kernel_rfl))
      exact Pred.yields_run (v := .int .i64 d) ((Pred.wanted_at (g := 31) (d := 138) (f := true) rfl rfl r138).trans rfl) (by go_simp) ⟨Pred.ext_refl _ _, rfl⟩
    · intro b X hE hd hn hV
      have r139 : b.tmps[139]?.getD undef = .int .i64 d := hV 32 _ 139 rfl rfl (Pred.waits_near (by kernel_rfl) (by kernel_rfl))
      have r138 : b.tmps[138]?.getD undef = .bool true := hV 31 _ 138 rfl rfl (Pred.waits_near (by kernel_rfl) (by kernel_rfl))
      refine Pred.yields_call (f := 17) (args := #[.int .i64 d]) ((Pred.wanted_at (g := 31) (d := 138) (f := true) rfl rfl r138).trans rfl) (by go_simp) ?_
      exact (CR.out _).mono fun e w2 ⟨he, hb⟩ => ⟨_, he, Pred.ext_below hb hE.size, rfl⟩
    · intro b X hE hd hn hV
      have r0 : b.tmps[0]?.getD undef = .int .i64 d := (hn 0 (by kernel_rfl)).trans rfl
      have r138 : b.tmps[138]?.getD undef = .bool true := hV 31 _ 138 rfl rfl (Pred.waits_near (by kernel_rfl) (by kernel_rfl))
      exact Pred.yields_run (v := .int .i64 d) ((Pred.wanted_at (g := 31) (d := 138) (f := true) rfl rfl r138).trans rfl) (by go_simp) ⟨Pred.ext_refl _ _, rfl⟩
    · intro b X hE hd hn hV
      have r141 : b.tmps[141]?.getD undef = .int .i64 d := hV 34 _ 141 rfl rfl (Pred.waits_near (by kernel_rfl) (by kernel_rfl))
      have r138 : b.tmps[138]?.getD undef = .bool true := hV 31 _ 138 rfl rfl (Pred.waits_near (by kernel_rfl) (by kernel_rfl))
      refine Pred.yields_call (f := 18) (args := #[.int .i64 d]) ((Pred.wanted_at (g := 31) (d := 138) (f := true) rfl rfl r138).trans rfl) (by go_simp) ?_
      exact (CRR.out _).mono fun e w2 ⟨he, hb⟩ => ⟨_, he, Pred.ext_below hb hE.size, rfl⟩
    · intro b X hE hd hn hV
      have r140 : b.tmps[140]?.getD undef = .agg #[.int .i64 r0, .int .i64 r1, .int .i64 r2] := hV 33 _ 140 rfl rfl (Pred.waits_near (by kernel_rfl) (by kernel_rfl))
      have r142 : b.tmps[142]?.getD undef = .agg #[.int .i64 r0, .int .i64 r1, .int .i64 r2] := hV 35 _ 142 rfl rfl (Pred.waits_near (by kernel_rfl) (by kernel_rfl))
      have r138 : b.tmps[138]?.getD undef = .bool true := hV 31 _ 138 rfl rfl (Pred.waits_near (by kernel_rfl) (by kernel_rfl))
      exact Pred.yields_run (v := .bool true) ((Pred.wanted_at (g := 31) (d := 138) (f := true) rfl rfl r138).trans rfl) (by go_simp) ⟨Pred.ext_refl _ _, rfl⟩
    · intro b X hE hd hn hV
      have r138 : b.tmps[138]?.getD undef = .bool true := hV 31 _ 138 rfl rfl (Pred.waits_near (by kernel_rfl) (by kernel_rfl))
      have r143 : b.tmps[143]?.getD undef = .bool true := hV 36 _ 143 rfl rfl (Pred.waits_near (by kernel_rfl) (by kernel_rfl))
      exact Pred.yields_run (v := .bool true) (Pred.wanted_none rfl) (by go_simp) ⟨Pred.ext_refl _ _, rfl⟩
    · intro b X hE hd hn hV
      have r144 : b.tmps[144]?.getD undef = .bool true := hV 37 _ 144 rfl rfl (Pred.waits_near (by kernel_rfl) (by kernel_rfl))
      exact Pred.yields_run (v := .bool true) (Pred.wanted_none rfl) (by go_simp) ⟨Pred.ext_refl _ _, rfl⟩
    · intro b X hE hd hn hV
      have r0 : b.tmps[0]?.getD undef = .int .i64 d := (hn 0 (by kernel_rfl)).trans rfl
      have r145 : b.tmps[145]?.getD undef = .bool true := hV 38 _ 145 rfl rfl (Pred.waits_near (by kernel_rfl) (by kernel_rfl))
      exact Pred.yields_run (v := .int .i64 d) ((Pred.wanted_at (g := 38) (d := 145) (f := true) rfl rfl r145).trans rfl) (by go_simp) ⟨Pred.ext_refl _ _, rfl⟩
    · intro b X hE hd hn hV
      have r146 : b.tmps[146]?.getD undef = .int .i64 d := hV 39 _ 146 rfl rfl (Pred.waits_near (by kernel_rfl) (by kernel_rfl))
      have r145 : b.tmps[145]?.getD undef = .bool true := hV 38 _ 145 rfl rfl (Pred.waits_near (by kernel_rfl) (by kernel_rfl))
      refine Pred.yields_call (f := 20) (args := #[.int .i64 d, .int .i64 (-1)]) ((Pred.wanted_at (g := 38) (d := 145) (f := true) rfl rfl r145).trans rfl) (by go_simp) ?_
      exact (CL.out _).mono fun e w2 ⟨⟨v, he, hp⟩, hb⟩ => ⟨v, he, Pred.ext_below hb hE.size, hp⟩
    · intro b X hE hd hn hV
      have r13 : b.tmps[13]?.getD undef = .slice ad N cp := (hn 13 (by kernel_rfl)).trans rfl
      have r145 : b.tmps[145]?.getD undef = .bool true := hV 38 _ 145 rfl rfl (Pred.waits_near (by kernel_rfl) (by kernel_rfl))
      exact Pred.yields_run (v := .slice ad N cp) ((Pred.wanted_at (g := 38) (d := 145) (f := true) rfl rfl r145).trans rfl) (by go_simp) ⟨Pred.ext_refl _ _, rfl⟩
    · intro b X hE hd hn hV
      obtain ⟨ga147, ca147, r147, hr147⟩ : SP (N) (allV d) (b.tmps[147]?.getD undef) X := hV 40 _ 147 rfl rfl (Pred.waits_near (by kernel_rfl) (by kernel_rfl))
      have r148 : b.tmps[148]?.getD undef = .slice ad N cp := hV 41 _ 148 rfl rfl (Pred.waits_near (by kernel_rfl) (by kernel_rfl))
      have r145 : b.tmps[145]?.getD undef = .bool true := hV 38 _ 145 rfl rfl (Pred.waits_near (by kernel_rfl) (by kernel_rfl))
      refine Pred.yields_call (f := 19) (args := #[.slice ga147 N ca147, .slice ad N cp]) ((Pred.wanted_at (g := 38) (d := 145) (f := true) rfl rfl r145).trans rfl) (by go_simp) ?_
      exact (CPG.out ga147 ca147 X hr147 (PgAt.below (B := 0) PW9.out hE)).mono fun e w2 ⟨he, hb⟩ => ⟨_, he, Pred.ext_below hb hE.size, rfl⟩
    · intro b X hE hd hn hV
      have r145 : b.tmps[145]?.getD undef = .bool true := hV 38 _ 145 rfl rfl (Pred.waits_near (by kernel_rfl) (by kernel_rfl))
      have r149 : b.tmps[149]?.getD undef = .bool true := hV 42 _ 149 rfl rfl (Pred.waits_near (by kernel_rfl) (by kernel_rfl))
      exact Pred.yields_run (v := .bool true) (Pred.wanted_none rfl) (by go_simp) ⟨Pred.ext_refl _ _, rfl⟩
    · intro b X hE hd hn hV
      have r150 : b.tmps[150]?.getD undef = .bool true := hV 43 _ 150 rfl rfl (Pred.waits_near (by kernel_rfl) (by kernel_rfl))
      exact Pred.yields_run (v := .bool true) (Pred.wanted_none rfl) (by go_simp) ⟨Pred.ext_refl _ _, rfl⟩
    · intro b X hE hd hn hV
      have r0 : b.tmps[0]?.getD undef = .int .i64 d := (hn 0 (by kernel_rfl)).trans rfl
      have r151 : b.tmps[151]?.getD undef = .bool true := hV 44 _ 151 rfl rfl (Pred.waits_near (by kernel_rfl) (by kernel_rfl))
      exact Pred.yields_run (v := .int .i64 d) ((Pred.wanted_at (g := 44) (d := 151) (f := true) rfl rfl r151).trans rfl) (by go_simp) ⟨Pred.ext_refl _ _, rfl⟩
    · intro b X hE hd hn hV
      have r21 : b.tmps[21]?.getD undef = .int .i64 (kn : Int) := (hn 21 (by kernel_rfl)).trans rfl
      have r151 : b.tmps[151]?.getD undef = .bool true := hV 44 _ 151 rfl rfl (Pred.waits_near (by kernel_rfl) (by kernel_rfl))
      exact Pred.yields_run (v := .int .i64 (kn : Int)) ((Pred.wanted_at (g := 44) (d := 151) (f := true) rfl rfl r151).trans rfl) (by go_simp) ⟨Pred.ext_refl _ _, rfl⟩
    · intro b X hE hd hn hV
      have r152 : b.tmps[152]?.getD undef = .int .i64 d := hV 45 _ 152 rfl rfl (Pred.waits_near (by kernel_rfl) (by kernel_rfl))
      have r153 : b.tmps[153]?.getD undef = .int .i64 (kn : Int) := hV 46 _ 153 rfl rfl (Pred.waits_near (by kernel_rfl) (by kernel_rfl))
      have r151 : b.tmps[151]?.getD undef = .bool true := hV 44 _ 151 rfl rfl (Pred.waits_near (by kernel_rfl) (by kernel_rfl))
      refine Pred.yields_call (f := 20) (args := #[.int .i64 d, .int .i64 (kn : Int)]) ((Pred.wanted_at (g := 44) (d := 151) (f := true) rfl rfl r151).trans rfl) (by go_simp) ?_
      exact (CLK.out _).mono fun e w2 ⟨⟨v, he, hp⟩, hb⟩ => ⟨v, he, Pred.ext_below hb hE.size, hp⟩
    · intro b X hE hd hn hV
      have r13 : b.tmps[13]?.getD undef = .slice ad N cp := (hn 13 (by kernel_rfl)).trans rfl
      have r151 : b.tmps[151]?.getD undef = .bool true := hV 44 _ 151 rfl rfl (Pred.waits_near (by kernel_rfl) (by kernel_rfl))
      exact Pred.yields_run (v := .slice ad N cp) ((Pred.wanted_at (g := 44) (d := 151) (f := true) rfl rfl r151).trans rfl) (by go_simp) ⟨Pred.ext_refl _ _, rfl⟩
    · intro b X hE hd hn hV
      have r21 : b.tmps[21]?.getD undef = .int .i64 (kn : Int) := (hn 21 (by kernel_rfl)).trans rfl
      have r151 : b.tmps[151]?.getD undef = .bool true := hV 44 _ 151 rfl rfl (Pred.waits_near (by kernel_rfl) (by kernel_rfl))
      exact Pred.yields_run (v := .int .i64 (kn : Int)) ((Pred.wanted_at (g := 44) (d := 151) (f := true) rfl rfl r151).trans rfl) (by go_simp) ⟨Pred.ext_refl _ _, rfl⟩
    · intro b X hE hd hn hV
      have r155 : b.tmps[155]?.getD undef = .slice ad N cp := hV 48 _ 155 rfl rfl (Pred.waits_near (by kernel_rfl) (by kernel_rfl))
      have r156 : b.tmps[156]?.getD undef = .int .i64 (kn : Int) := hV 49 _ 156 rfl rfl (Pred.waits_near (by kernel_rfl) (by kernel_rfl))
      have r151 : b.tmps[151]?.getD undef = .bool true := hV 44 _ 151 rfl rfl (Pred.waits_near (by kernel_rfl) (by kernel_rfl))
      exact Pred.yields_run (v := .slice ad kn cp) ((Pred.wanted_at (g := 44) (d := 151) (f := true) rfl rfl r151).trans rfl) (by go_simp) ⟨Pred.ext_refl _ _, rfl⟩
    · intro b X hE hd hn hV
      obtain ⟨ga154, ca154, r154, hr154⟩ : SP (kn) ((allV d).take kn) (b.tmps[154]?.getD undef) X := hV 47 _ 154 rfl rfl (Pred.waits_near (by kernel_rfl) (by kernel_rfl))
      have r157 : b.tmps[157]?.getD undef = .slice ad kn cp := hV 50 _ 157 rfl rfl (Pred.waits_near (by kernel_rfl) (by kernel_rfl))
      have r151 : b.tmps[151]?.getD undef = .bool true := hV 44 _ 151 rfl rfl (Pred.waits_near (by kernel_rfl) (by kernel_rfl))
      refine Pred.yields_call (f := 19) (args := #[.slice ga154 kn ca154, .slice ad kn cp]) ((Pred.wanted_at (g := 44) (d := 151) (f := true) rfl rfl r151).trans rfl) (by go_simp) ?_
      exact (CPK.out ga154 ca154 X hr154 (pg_take kn (PgAt.below (B := 0) PW9.out hE))).mono fun e w2 ⟨he, hb⟩ => ⟨_, he, Pred.ext_below hb hE.size, rfl⟩
    · intro b X hE hd hn hV
      have r151 : b.tmps[151]?.getD undef = .bool true := hV 44 _ 151 rfl rfl (Pred.waits_near (by kernel_rfl) (by kernel_rfl))
      have r158 : b.tmps[158]?.getD undef = .bool true := hV 51 _ 158 rfl rfl (Pred.waits_near (by kernel_rfl) (by kernel_rfl))
      exact Pred.yields_run (v := .bool true) (Pred.wanted_none rfl) (by go_simp) ⟨Pred.ext_refl _ _, rfl⟩
    · intro b X hE hd hn hV
      have r159 : b.tmps[159]?.getD undef = .bool true := hV 52 _ 159 rfl rfl (Pred.waits_near (by kernel_rfl) (by kernel_rfl))
      exact Pred.yields_run (v := .bool true) (Pred.wanted_none rfl) (by go_simp) ⟨Pred.ext_refl _ _, rfl⟩
    · intro b X hE hd hn hV
      have r160 : b.tmps[160]?.getD undef = .bool true := hV 53 _ 160 rfl rfl (Pred.waits_near (by kernel_rfl) (by kernel_rfl))
      refine Pred.yields_call (f := 21) (args := #[]) ((Pred.wanted_at (g := 53) (d := 160) (f := true) rfl rfl r160).trans rfl) (by go_simp) ?_
      exact (awake_any _).mono fun e w2 ⟨he, hb⟩ => ⟨_, he, Pred.ext_below hb hE.size, rfl⟩
    · intro b X hE hd hn hV
      have r160 : b.tmps[160]?.getD undef = .bool true := hV 53 _ 160 rfl rfl (Pred.waits_near (by kernel_rfl) (by kernel_rfl))
      have r161 : b.tmps[161]?.getD undef = .bool true := hV 54 _ 161 rfl rfl (Pred.waits_near (by kernel_rfl) (by kernel_rfl))
      exact Pred.yields_run (v := .bool true) (Pred.wanted_none rfl) (by go_simp) ⟨Pred.ext_refl _ _, rfl⟩
    · intro b X hE hd hn hV
      have r162 : b.tmps[162]?.getD undef = .bool true := hV 55 _ 162 rfl rfl (Pred.waits_near (by kernel_rfl) (by kernel_rfl))
      exact Pred.yields_run (v := .bool true) (Pred.wanted_none rfl) (by go_simp) ⟨Pred.ext_refl _ _, rfl⟩
  intro v w9 hE hv
  have e0 : v 0 = .int .i64 d := hv 0 _ 107 rfl rfl
  have e1 : v 1 = .agg #[.int .i64 p0, .int .i64 p1, .int .i64 p2] := hv 1 _ 108 rfl rfl
  have e2 : v 2 = .bool vb := hv 2 _ 109 rfl rfl
  have e3 : v 3 = .int .i64 d := hv 3 _ 110 rfl rfl
  have e4 : v 4 = .agg #[.int .i64 p0, .int .i64 p1, .int .i64 p2] := hv 4 _ 111 rfl rfl
  have e5 : v 5 = .bool vb := hv 5 _ 112 rfl rfl
  have e6 : v 6 = .bool true := hv 6 _ 113 rfl rfl
  have e7 : v 7 = .bool true := hv 7 _ 114 rfl rfl
  have e8 : v 8 = .int .i64 d := hv 8 _ 115 rfl rfl
  have e9 : v 9 = .agg #[.int .i64 p0, .int .i64 p1, .int .i64 p2] := hv 9 _ 116 rfl rfl
  have e10 : v 10 = .int .i64 x := hv 10 _ 117 rfl rfl
  have e11 : v 11 = .int .i64 x := hv 11 _ 118 rfl rfl
  have e12 : v 12 = .bool true := hv 12 _ 119 rfl rfl
  have e13 : v 13 = .bool true := hv 13 _ 120 rfl rfl
  have e14 : v 14 = .bool true := hv 14 _ 121 rfl rfl
  have e15 : v 15 = .int .i64 d := hv 15 _ 122 rfl rfl
  have e16 : v 16 = .int .i64 (N : Int) := hv 16 _ 123 rfl rfl
  have e17 : v 17 = .slice ad N cp := hv 17 _ 124 rfl rfl
  have e18 : v 18 = .int .i64 (N : Int) := hv 18 _ 125 rfl rfl
  have e19 : v 19 = .bool true := hv 19 _ 126 rfl rfl
  have e20 : v 20 = .bool true := hv 20 _ 127 rfl rfl
  have e21 : v 21 = .bool true := hv 21 _ 128 rfl rfl
  have e22 : v 22 = .agg #[.int .i64 u0, .int .i64 u1, .int .i64 u2] := hv 22 _ 129 rfl rfl
  have e23 : v 23 = .agg #[.int .i64 u0, .int .i64 u1, .int .i64 u2] := hv 23 _ 130 rfl rfl
  have e24 : v 24 = .bool true := hv 24 _ 131 rfl rfl
  have e25 : v 25 = .bool true := hv 25 _ 132 rfl rfl
  have e26 : v 26 = .bool true := hv 26 _ 133 rfl rfl
  have e27 : v 27 = .bool is := hv 27 _ 134 rfl rfl
  have e28 : v 28 = .bool is := hv 28 _ 135 rfl rfl
  have e29 : v 29 = .bool true := hv 29 _ 136 rfl rfl
  have e30 : v 30 = .bool true := hv 30 _ 137 rfl rfl
  have e31 : v 31 = .bool true := hv 31 _ 138 rfl rfl
  have e32 : v 32 = .int .i64 d := hv 32 _ 139 rfl rfl
  have e33 : v 33 = .agg #[.int .i64 r0, .int .i64 r1, .int .i64 r2] := hv 33 _ 140 rfl rfl
  have e34 : v 34 = .int .i64 d := hv 34 _ 141 rfl rfl
  have e35 : v 35 = .agg #[.int .i64 r0, .int .i64 r1, .int .i64 r2] := hv 35 _ 142 rfl rfl
  have e36 : v 36 = .bool true := hv 36 _ 143 rfl rfl
  have e37 : v 37 = .bool true := hv 37 _ 144 rfl rfl
  have e38 : v 38 = .bool true := hv 38 _ 145 rfl rfl
  have e39 : v 39 = .int .i64 d := hv 39 _ 146 rfl rfl
  obtain ⟨ga40, ca40, e40, hr40⟩ : SP (N) (allV d) (v 40) w9 := hv 40 _ 147 rfl rfl
  have e41 : v 41 = .slice ad N cp := hv 41 _ 148 rfl rfl
  have e42 : v 42 = .bool true := hv 42 _ 149 rfl rfl
  have e43 : v 43 = .bool true := hv 43 _ 150 rfl rfl
  have e44 : v 44 = .bool true := hv 44 _ 151 rfl rfl
  have e45 : v 45 = .int .i64 d := hv 45 _ 152 rfl rfl
  have e46 : v 46 = .int .i64 (kn : Int) := hv 46 _ 153 rfl rfl
  obtain ⟨ga47, ca47, e47, hr47⟩ : SP (kn) ((allV d).take kn) (v 47) w9 := hv 47 _ 154 rfl rfl
  have e48 : v 48 = .slice ad N cp := hv 48 _ 155 rfl rfl
  have e49 : v 49 = .int .i64 (kn : Int) := hv 49 _ 156 rfl rfl
  have e50 : v 50 = .slice ad kn cp := hv 50 _ 157 rfl rfl
  have e51 : v 51 = .bool true := hv 51 _ 158 rfl rfl
  have e52 : v 52 = .bool true := hv 52 _ 159 rfl rfl
  have e53 : v 53 = .bool true := hv 53 _ 160 rfl rfl
  have e54 : v 54 = .bool true := hv 54 _ 161 rfl rfl
  have e55 : v 55 = .bool true := hv 55 _ 162 rfl rfl
  have e56 : v 56 = .bool true := hv 56 _ 12 rfl rfl
  simp only [Pred.putsF_cons, Pred.putsF_nil, Nat.zero_add, Nat.reduceAdd, e0, e1, e2, e3, e4, e5, e6, e7, e8, e9, e10, e11, e12, e13, e14, e15, e16, e17, e18, e19, e20, e21, e22, e23, e24, e25, e26, e27, e28, e29, e30, e31, e32, e33, e34, e35, e36, e37, e38, e39, e40, e41, e42, e43, e44, e45, e46, e47, e48, e49, e50, e51, e52, e53, e54, e55, e56, Act.put, List.setIfInBounds_toArray, List.set_cons_zero, List.set_cons_succ]
  clear e0 e1 e2 e3 e4 e5 e6 e7 e8 e9 e10 e11 e12 e13 e14 e15 e16 e17 e18 e19 e20 e21 e22 e23 e24 e25 e26 e27 e28 e29 e30 e31 e32 e33 e34 e35 e36 e37 e38 e39 e40 e41 e42 e43 e44 e45 e46 e47 e48 e49 e50 e51 e52 e53 e54 e55 e56 hv
  have L9 : Below W.heap.size W w9 := by repeat' (first | (with_reducible exact Below.refl _ _) | (with_reducible refine Rd.below_step ?_ (by assumption)) | (with_reducible refine Rd.below_alloc ?_ _) | (with_reducible refine Rd.below_drewN ?_ _) | (with_reducible refine Below.drew ?_) | (with_reducible refine Below.setCell ?_ ?_ _) | (with_reducible refine Rd.below_setRow ?_ ?_ _) | go_size | (simp only [World.size_alloc]; omega) | omega)
  clear hE
  go_wp2
  go_ret
  exact ⟨rfl, L9⟩
end Go.Proofs.Ytnigilommckmlaa.PgK
