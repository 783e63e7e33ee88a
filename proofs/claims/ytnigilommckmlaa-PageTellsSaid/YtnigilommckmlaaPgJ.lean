/-
  The walk of PageParents.
-/
import Derived.Test.YtnigilommckmlaaPgI
import Derived.Test.YtnigilommckmlaaPredS
namespace Go.Proofs.Ytnigilommckmlaa.PgJ
open Go.RowKit Go.Shelf Rd Go.Proofs.Ytnigilommckmlaa.Row Mid PgM PgA PgB PgC PgD PgE PgF PgG PgH PgI
open Go.Proofs.Ytnigilommckmlaa.Pred (Is is_stab Stab)
set_option linter.unusedVariables false
set_option linter.unusedSimpArgs false
set_option maxRecDepth 10000
/-- one of a page's four -/
def kidB (n : Int) (p v : List Int) : Bool := decide (PgM.g v 0 < n) && decide (upV n (PgM.g v 0) (PgM.g v 1) (PgM.g v 2) (PgM.g v 0 + 1) = p)
def cntN (n : Int) (p : List Int) (t : Nat) : Nat := ((allV n).take t).countP (kidB n p)
def cntV (n : Int) (p : List Int) (t : Nat) : Int := (cntN n p t : Nat)
theorem cnt_step {n : Int} {p : List Int} {t : Nat} (ht : t < (allV n).length) : cntV n p (t + 1) = cntV n p t + (if kidB n p (at_ (allV n) t) = true then 1 else 0) := by
  unfold cntV cntN
  rw [List.take_add_one, List.getElem?_eq_getElem ht, at_eq ht, List.countP_append]
  by_cases h : kidB n p (allV n)[t] = true <;> simp [h]
def kidsOk (n : Int) : Bool := (allV n).all fun p => decide ((allV n).countP (kidB n p) = if PgM.g p 0 = 0 then 0 else 4)
theorem kids0 : kidsOk 0 = true := by decide +kernel
theorem kids1 : kidsOk 1 = true := by decide +kernel
theorem kids2 : kidsOk 2 = true := by decide +kernel
theorem kids3 : kidsOk 3 = true := by decide +kernel
theorem kids_all (n i : Nat) (hn : n ≤ 3) (hi : i < (allV n).length) : cntV n (at_ (allV n) i) (allV n).length = if PgM.g (at_ (allV n) i) 0 = 0 then 0 else 4 := by
  have h : kidsOk n = true := by
    rcases n4 hn with rfl | rfl | rfl | rfl
    · exact kids0
    · exact kids1
    · exact kids2
    · exact kids3
  have h2 := List.all_eq_true.1 h (at_ (allV n) i) (by rw [at_eq hi]; exact List.getElem_mem _)
  have h3 := of_decide_eq_true h2
  unfold cntV cntN
  rw [List.take_of_length_le (Nat.le_refl _), h3]
  split <;> rfl
theorem up_one {d L X Y : Int} (h : validB d L X Y = true) : upB d L X Y (L + 1) = decide (L < d) ∧ (L < d → upV d L X Y (L + 1) = [L + 1, X / 2, Y / 2]) := by
  have e : upB d L X Y (L + 1) = decide (L < d) := by
    unfold upB
    rw [h, Bool.true_and]
    by_cases hl : L < d
    · rw [decide_eq_true hl, decide_eq_true (by omega)]
    · rw [decide_eq_false hl, decide_eq_false (by omega)]
  refine ⟨e, fun hl => ?_⟩
  unfold upV
  rw [e, if_pos (decide_eq_true hl), show (L + 1 - L).toNat = 1 by omega]
  rfl
theorem up_top {d L X Y : Int} (h : validB d L X Y = true) : upB d L X Y d = true ∧ upV d L X Y d = [d, 0, 0] := by
  obtain ⟨⟨h1, h2⟩, ⟨h3, h4⟩, ⟨h5, h6⟩, ⟨h7, h8⟩⟩ := valid_yes h
  have e : upB d L X Y d = true := by
    unfold upB
    rw [h, Bool.true_and]
    exact decide_eq_true ⟨h4, Int.le_refl _⟩
  refine ⟨e, ?_⟩
  unfold upV
  rw [if_pos e]
  unfold sd at h6 h8
  rw [Int.ediv_eq_zero_of_lt h5 h6, Int.ediv_eq_zero_of_lt h7 h8]
theorem up_self {d L X Y : Int} (h : validB d L X Y = true) : upB d L X Y L = true ∧ upV d L X Y L = [L, X, Y] := by
  obtain ⟨⟨h1, h2⟩, ⟨h3, h4⟩, _, _⟩ := valid_yes h
  have e : upB d L X Y L = true := by
    unfold upB
    rw [h, Bool.true_and]
    exact decide_eq_true ⟨Int.le_refl _, h4⟩
  refine ⟨e, ?_⟩
  unfold upV
  rw [if_pos e, show (L - L).toNat = 0 by omega]
  simp
theorem wrap_small {x : Int} (h : -9223372036854775808 ≤ x) (h2 : x ≤ 9223372036854775807) : IntKind.wrap .i64 x = x := IntWalk.i64_in _ ⟨h, h2⟩
theorem half {x : Int} (h : 0 ≤ x) : x.tdiv 2 = x / 2 := by rw [Int.tdiv_eq_ediv_of_nonneg h]
attribute [local go_sem ↓] store_pg eq_pg3
attribute [local go_sem] one_int pc3 run_store_pg rowStore_eq blk_alloc_at blk_alloc_old blk_drew blk_drewN blk_set_far blk_set_far' blk_grow setRow_alloc_at setRow_alloc_old setRow_drew setRow_drewN
set_option maxHeartbeats 8000000 in
theorem parents_gen (d a0 : Int) (w : World) (hd1 : -9223372036854775808 ≤ d) (hd2 : d ≤ 9223372036854775807) (ha1 : -9223372036854775808 ≤ a0) (ha2 : a0 ≤ 9223372036854775807) :
    Calls Try.prog 4 #[.int .i64 d, .int .i64 a0] w fun e w' => e = .returned (.bool true) ∧ Below w.heap.size w w' := by
  go_enter Try.func4, Try.ntmps4
  go_wp2_with fail
  refine (Alk.round_any d 4 _ hd1 hd2 (by omega) (by omega)).mono ?_
  rintro e w1 ⟨rfl, rfl⟩
  obtain ⟨n, en⟩ : ∃ n : Nat, d % 4 = n := ⟨(d % 4).toNat, by omega⟩
  have hn : n ≤ 3 := by omega
  rw [en]
  clear en
  have hcount := all_len (n : Int)
  have hsm := all_small (n : Int)
  obtain ⟨N, hN⟩ : ∃ N, (allV (n : Int)).length = N := ⟨_, rfl⟩
  rw [hN] at hcount hsm
  have HN := Lib.hid hN
  have hpos : 1 ≤ N := by
    rw [← hN]
    rcases n4 hn with rfl | rfl | rfl | rfl <;> decide +kernel
  have CN : Hid (∀ X : World, Calls Try.prog 16 #[.int .i64 n] X fun e w' => e = .returned (.int .i64 N) ∧ Below X.heap.size X w') := fun X => by
    have := count_any n X
    rw [← hcount] at this
    exact this
  have hmx : max (N : Int) 1 = N := by omega
  clear hN hcount
  go_wp2_with fail
  refine (CN.out _).mono ?_
  rintro e w1 ⟨rfl, hb1⟩
  have L1 : Below w.heap.size w w1 := hb1
  clear hb1 CN
  go_wp2_with fail
  refine (Alk.round_any a0 N _ ha1 ha2 (by omega) (by omega)).mono ?_
  rintro e w2 ⟨rfl, rfl⟩
  obtain ⟨i, ei⟩ : ∃ i : Nat, a0 % N = i := ⟨(a0 % N).toNat, by have := Int.emod_nonneg a0 (b := (N : Int)) (by omega); omega⟩
  have hi : i < N := by have := Int.emod_lt_of_pos a0 (b := (N : Int)) (by omega); omega
  rw [ei]
  clear ei
  obtain ⟨p0, p1, p2, eP, kP⟩ := page_key hn (show i < (allV (n : Int)).length by rw [HN.out]; exact hi)
  have CA : Hid (∀ X : World, Calls Try.prog 7 #[.int .i64 n, .int .i64 i] X fun e w' => e = .returned (.tuple #[.agg #[.int .i64 p0, .int .i64 p1, .int .i64 p2], .bool true]) ∧ Below X.heap.size X w') := fun X => by
    have := at_any n i X
    have hr : 0 ≤ (i : Int) ∧ (i : Int) < countV n := by rw [← all_len, HN.out]; omega
    rw [show atV (n : Int) i = [p0, p1, p2] by unfold atV; rw [if_pos hr]; exact eP, show atB (n : Int) i = true from decide_eq_true hr] at this
    exact this
  have vP := key_valid kP
  have HKA := Lib.hid (kids_all n i hn (by rw [HN.out]; exact hi))
  rw [eP, HN.out] at HKA
  have CS : Hid (∀ X : World, Calls Try.prog 8 #[.int .i64 n, .agg #[.int .i64 p0, .int .i64 p1, .int .i64 p2], .int .i64 p0] X fun e w' => e = .returned (.tuple #[.agg #[.int .i64 p0, .int .i64 p1, .int .i64 p2], .bool true]) ∧ Below X.heap.size X w') := fun X => by
    have := up_any n p0 p1 p2 p0 X
    rw [(up_self vP).1, (up_self vP).2] at this
    exact this
  have CR : Hid (∀ X : World, Calls Try.prog 17 #[.int .i64 n] X fun e w' => e = .returned (.agg #[.int .i64 n, .int .i64 0, .int .i64 0]) ∧ Below X.heap.size X w') := fun X => by
    have := root_any n X
    rw [show rootV (n : Int) = [(n : Int), 0, 0] by unfold rootV; rw [if_pos (depth_mk (by omega) (by omega))]] at this
    exact this
  clear eP kP vP
  go_wp2_with fail
  refine (CA.out _).mono ?_
  rintro e w2 ⟨rfl, hb2⟩
  have L2 : Below w.heap.size w w2 := by repeat' (first | (with_reducible exact Below.refl _ _) | (with_reducible refine Rd.below_step ?_ (by assumption)) | (with_reducible refine Rd.below_alloc ?_ _) | (with_reducible refine Rd.below_drewN ?_ _) | (with_reducible refine Below.drew ?_) | (with_reducible refine Below.setCell ?_ ?_ _) | (with_reducible refine Rd.below_setRow ?_ ?_ _) | go_size | (simp only [World.size_alloc]; omega) | omega)
  clear hb2 L1 CA
  go_upto_region 3 with (fail)
  refine Rd.name_world ?_
  intro w3 hw
  have bP3 : blk w3 w2.heap.size = some (.cells #[.int .i64 p0, .int .i64 p1, .int .i64 p2] 23 (0, 0)) := by rw [hw]; exact blk_alloc_at _ _ _ rfl
  have L3 : Below w.heap.size w w3 := by
    rw [hw]
    repeat' (first | (with_reducible exact Below.refl _ _) | (with_reducible refine Rd.below_step ?_ (by assumption)) | (with_reducible refine Rd.below_alloc ?_ _) | (with_reducible refine Rd.below_drewN ?_ _) | (with_reducible refine Below.drew ?_) | (with_reducible refine Below.setCell ?_ ?_ _) | (with_reducible refine Rd.below_setRow ?_ ?_ _) | go_size | (simp only [World.size_alloc]; omega) | omega)
  obtain ⟨pb, hpb⟩ : ∃ p, w2.heap.size = p := ⟨_, rfl⟩
  have hwp : w.heap.size ≤ pb := by rw [← hpb]; exact L2.size
  rw [hpb] at bP3 ⊢
  clear hw hpb L2
  go_wp2_with fail
  refine (lall_any n (-1) _).mono ?_
  rintro e w4 ⟨⟨ad, cp, rfl, hP⟩, hb4⟩
  rw [cut_all] at hP ⊢
  rw [HN.out]
  obtain ⟨ga, o, ea, hb0, hc⟩ : ∃ ga o, ad = some ⟨ga, o, none⟩ ∧ ga < w4.heap.size ∧ ∀ i, i < (allV (n : Int)).length → ∀ j, j < 3 → w4.cell? ⟨ga, o + i * 3 + j, none⟩ = some (.int .i64 (PgM.g (at_ (allV (n : Int)) i) j)) := by
    rcases hP.2 with h | h
    · have := HN.out; rw [h] at this; simp at this; omega
    · exact h
  subst ea
  have HC := Lib.hid hc
  have bP4 := Lib.hid ((blk_below hb4 _ (blk_lt bP3)).trans bP3)
  have lP4 : pb < w4.heap.size := Nat.lt_of_lt_of_le (blk_lt bP3) hb4.size
  have L4 : Below w.heap.size w w4 := by repeat' (first | (with_reducible exact Below.refl _ _) | (with_reducible refine Rd.below_step ?_ (by assumption)) | (with_reducible refine Rd.below_alloc ?_ _) | (with_reducible refine Rd.below_drewN ?_ _) | (with_reducible refine Below.drew ?_) | (with_reducible refine Below.setCell ?_ ?_ _) | (with_reducible refine Rd.below_setRow ?_ ?_ _) | go_size | (simp only [World.size_alloc]; omega) | omega)
  clear hb4 hP hc bP3 L3
  go_wp2_with fail
  go_loopw [8, 10] (fun s j X => ∃ t : Nat, t ≤ N ∧ s = .int .i64 (cntV n [p0, p1, p2] t) ∧ j = .int .i64 t ∧ Below w4.heap.size w4 X) (fun _ j _ => N - (intOf j).toNat)
  case atStart => exact ⟨0, by omega, by simp [cntV, cntN], rfl, Below.refl _ _⟩
  case round =>
    obtain ⟨t, ht, rfl, rfl, hbt⟩ := hrel
    rename World => Y0
    have LY : Below w.heap.size w Y0 := L4.trans (hbt.mono L4.size)
    by_cases htn : t < N
    · have htn' : (t : Int) < N := by omega
      obtain ⟨x0, x1, x2, eX, kX⟩ := page_key hn (show t < (allV (n : Int)).length by rw [HN.out]; exact htn)
      have vX := key_valid kX
      have ST := Lib.hid (cnt_step (n := n) (p := [p0, p1, p2]) (t := t) (by rw [HN.out]; exact htn))
      rw [eX] at ST
      have CX : Hid (CX3 Y0 ga o t x0 x1 x2) := by
        have hx := fun j hj => (hbt.cell (p := ⟨ga, o + t * 3 + j, none⟩) hb0).trans (HC.out t (by rw [HN.out]; exact htn) j hj)
        rw [eX] at hx
        exact ⟨hx 0 (by omega), hx 1 (by omega), hx 2 (by omega)⟩
      have hbb : ga < Y0.heap.size := Nat.lt_of_lt_of_le hb0 hbt.size
      have bP := (blk_below hbt _ lP4).trans bP4.out
      have lP := blk_lt bP
      have hcb : 0 ≤ cntV n [p0, p1, p2] t ∧ cntV n [p0, p1, p2] t ≤ 85 := by
        unfold cntV cntN
        have := List.countP_le_length (p := kidB n [p0, p1, p2]) (l := (allV n).take t)
        rw [List.length_take] at this
        omega
      obtain ⟨⟨-, -⟩, ⟨hx0, hx1⟩, ⟨hx2, hx3⟩, ⟨hx4, hx5⟩⟩ := valid_yes vX
      have hsd := (sd_bd hx0 hx1 (by omega)).2
      replace hx3 : x1 ≤ 8 := by omega
      replace hx5 : x2 ≤ 8 := by omega
      clear hsd
      obtain ⟨u0, u1, u2, eU⟩ := len3 (show (upV n x0 x1 x2 (x0 + 1)).length = 3 by unfold upV; split <;> rfl)
      have O1 := Lib.hid (up_one vX)
      have T1 := Lib.hid (up_top vX)
      obtain ⟨is, eI⟩ : ∃ q, decide (x0 < (n : Int)) = q := ⟨_, rfl⟩
      have CU : Hid (∀ X : World, Calls Try.prog 8 #[.int .i64 n, .agg #[.int .i64 x0, .int .i64 x1, .int .i64 x2], .int .i64 (x0 + 1)] X fun e w' => e = .returned (.tuple #[.agg #[.int .i64 u0, .int .i64 u1, .int .i64 u2], .bool is]) ∧ Below X.heap.size X w') := fun X => by
        have := up_any n x0 x1 x2 (x0 + 1) X
        rw [eU, O1.out.1, eI] at this
        exact this
      have CT : Hid (∀ X : World, Calls Try.prog 8 #[.int .i64 n, .agg #[.int .i64 x0, .int .i64 x1, .int .i64 x2], .int .i64 n] X fun e w' => e = .returned (.tuple #[.agg #[.int .i64 n, .int .i64 0, .int .i64 0], .bool true]) ∧ Below X.heap.size X w') := fun X => by
        have := up_any n x0 x1 x2 n X
        rw [T1.out.1, T1.out.2] at this
        exact this
      replace ST : Hid (cntV n [p0, p1, p2] (t + 1) = cntV n [p0, p1, p2] t + (if (is && decide ([u0, u1, u2] = [p0, p1, p2])) = true then 1 else 0)) := by
        have := ST.out
        unfold kidB at this
        simp only [PgM.g, List.getD_cons_zero, List.getD_cons_succ] at this
        rw [eI, eU] at this
        exact this
      have EU : Hid (is = true → [u0, u1, u2] = [x0 + 1, x1 / 2, x2 / 2]) := fun h => by rw [← eU]; exact O1.out.2 (of_decide_eq_true (by rw [eI]; exact h))
      have EI := Lib.hid eI
      have w51 : IntKind.wrap .i64 (x0 + 1) = x0 + 1 := wrap_small (by omega) (by omega)
      clear eX kX vX O1 T1 eU eI
      go_upto_region 10 with (fail)
      refine PredS.region_vals (W := Y0) [⟨15, 16, 23, cs .i64 [0, 0, 0], #[.int .i64 u0, .int .i64 u1, .int .i64 u2]⟩] (PredS.Of [
          Is (.int .i64 (n : Int)),
          Is (.slice (some ⟨ga, o, none⟩) N cp),
          Is (.int .i64 (t : Int)),
          Is (.pointer (some ⟨ga, o + t * 3, none⟩)),
          Is (.agg #[.int .i64 x0, .int .i64 x1, .int .i64 x2]),
          Is (.slice (some ⟨ga, o, none⟩) N cp),
          Is (.int .i64 (t : Int)),
          Is (.pointer (some ⟨ga, o + t * 3, none⟩)),
          Is (.pointer (some ⟨ga, o + t * 3, none⟩)),
          Is (.int .i64 x0),
          Is (.int .i64 (x0 + 1)),
          Is (.tuple #[.agg #[.int .i64 u0, .int .i64 u1, .int .i64 u2], .bool is]),
          Is (.tuple #[.agg #[.int .i64 u0, .int .i64 u1, .int .i64 u2], .bool is]),
          Is (.agg #[.int .i64 u0, .int .i64 u1, .int .i64 u2]),
          Is (.bool is),
          Is undef,
          Is undef,
          Is (.bool is)]) (by kernel_rfl) (by kernel_rfl) (by kernel_rfl) (by kernel_rfl) (PredS.of_stab ?_) ?_ ?_ ?_
      · exact ⟨PredS.is_stab _, PredS.is_stab _, PredS.is_stab _, PredS.is_stab _, PredS.is_stab _, PredS.is_stab _, PredS.is_stab _, PredS.is_stab _, PredS.is_stab _, PredS.is_stab _, PredS.is_stab _, PredS.is_stab _, PredS.is_stab _, PredS.is_stab _, PredS.is_stab _, PredS.is_stab _, PredS.is_stab _, PredS.is_stab _, trivial⟩
      · refine ⟨.inr ?_, .inr ?_, .inr ?_, .inr ?_, .inr ?_, .inr ?_, .inr ?_, .inr ?_, .inr ?_, .inr ?_, .inr ?_, .inr ?_, .inr ?_, .inr ?_, .inr ?_, .inl rfl, .inl rfl, .inr ?_, trivial⟩
        · intro b X hE hd hn hV
          have r5 : b.tmps[5]?.getD undef = .int .i64 (n : Int) := (hn 5 (by kernel_rfl)).trans rfl
          exact Pred.yields_run (v := .int .i64 (n : Int)) (Pred.wanted_none rfl) (by go_simp) ⟨PredS.ext_refl _ _ _, rfl⟩
        · intro b X hE hd hn hV
          have r9 : b.tmps[9]?.getD undef = .slice (some ⟨ga, o, none⟩) N cp := (hn 9 (by kernel_rfl)).trans rfl
          exact Pred.yields_run (v := .slice (some ⟨ga, o, none⟩) N cp) (Pred.wanted_none rfl) (by go_simp) ⟨PredS.ext_refl _ _ _, rfl⟩
        · intro b X hE hd hn hV
          have r10 : b.tmps[10]?.getD undef = .int .i64 (t : Int) := (hn 10 (by kernel_rfl)).trans rfl
          exact Pred.yields_run (v := .int .i64 (t : Int)) (Pred.wanted_none rfl) (by go_simp) ⟨PredS.ext_refl _ _ _, rfl⟩
        · intro b X hE hd hn hV
          have r42 : b.tmps[42]?.getD undef = .slice (some ⟨ga, o, none⟩) N cp := hV 1 _ 42 rfl rfl rfl (Pred.waits_near (by kernel_rfl) (by kernel_rfl))
          have r43 : b.tmps[43]?.getD undef = .int .i64 (t : Int) := hV 2 _ 43 rfl rfl rfl (Pred.waits_near (by kernel_rfl) (by kernel_rfl))
          exact Pred.yields_run (v := .pointer (some ⟨ga, o + t * 3, none⟩)) (Pred.wanted_none rfl) (by go_simp) ⟨PredS.ext_refl _ _ _, rfl⟩
        · intro b X hE hd hn hV
          have r44 : b.tmps[44]?.getD undef = .pointer (some ⟨ga, o + t * 3, none⟩) := hV 3 _ 44 rfl rfl rfl (Pred.waits_near (by kernel_rfl) (by kernel_rfl))
          obtain ⟨z0, z1, z2⟩ := cx_below hE hbb CX.out
          exact Pred.yields_run (v := .agg #[.int .i64 x0, .int .i64 x1, .int .i64 x2]) (Pred.wanted_none rfl) (by go_simp) ⟨PredS.ext_refl _ _ _, rfl⟩
        · intro b X hE hd hn hV
          have r9 : b.tmps[9]?.getD undef = .slice (some ⟨ga, o, none⟩) N cp := (hn 9 (by kernel_rfl)).trans rfl
          exact Pred.yields_run (v := .slice (some ⟨ga, o, none⟩) N cp) (Pred.wanted_none rfl) (by go_simp) ⟨PredS.ext_refl _ _ _, rfl⟩
        · intro b X hE hd hn hV
          have r10 : b.tmps[10]?.getD undef = .int .i64 (t : Int) := (hn 10 (by kernel_rfl)).trans rfl
          exact Pred.yields_run (v := .int .i64 (t : Int)) (Pred.wanted_none rfl) (by go_simp) ⟨PredS.ext_refl _ _ _, rfl⟩
        · intro b X hE hd hn hV
          have r46 : b.tmps[46]?.getD undef = .slice (some ⟨ga, o, none⟩) N cp := hV 5 _ 46 rfl rfl rfl (Pred.waits_near (by kernel_rfl) (by kernel_rfl))
          have r47 : b.tmps[47]?.getD undef = .int .i64 (t : Int) := hV 6 _ 47 rfl rfl rfl (Pred.waits_near (by kernel_rfl) (by kernel_rfl))
          exact Pred.yields_run (v := .pointer (some ⟨ga, o + t * 3, none⟩)) (Pred.wanted_none rfl) (by go_simp) ⟨PredS.ext_refl _ _ _, rfl⟩
        · intro b X hE hd hn hV
          have r48 : b.tmps[48]?.getD undef = .pointer (some ⟨ga, o + t * 3, none⟩) := hV 7 _ 48 rfl rfl rfl (Pred.waits_near (by kernel_rfl) (by kernel_rfl))
          exact Pred.yields_run (v := .pointer (some ⟨ga, o + t * 3, none⟩)) (Pred.wanted_none rfl) (by go_simp) ⟨PredS.ext_refl _ _ _, rfl⟩
        · intro b X hE hd hn hV
          have r49 : b.tmps[49]?.getD undef = .pointer (some ⟨ga, o + t * 3, none⟩) := hV 8 _ 49 rfl rfl rfl (Pred.waits_near (by kernel_rfl) (by kernel_rfl))
          obtain ⟨z0, z1, z2⟩ := cx_below hE hbb CX.out
          exact Pred.yields_run (v := .int .i64 x0) (Pred.wanted_none rfl) (by go_simp) ⟨PredS.ext_refl _ _ _, rfl⟩
        · intro b X hE hd hn hV
          have r50 : b.tmps[50]?.getD undef = .int .i64 x0 := hV 9 _ 50 rfl rfl rfl (Pred.waits_near (by kernel_rfl) (by kernel_rfl))
          exact Pred.yields_run (v := .int .i64 (x0 + 1)) (Pred.wanted_none rfl) (by go_simp) ⟨PredS.ext_refl _ _ _, rfl⟩
        · intro b X hE hd hn hV
          have r41 : b.tmps[41]?.getD undef = .int .i64 (n : Int) := hV 0 _ 41 rfl rfl rfl (Pred.waits_near (by kernel_rfl) (by kernel_rfl))
          have r45 : b.tmps[45]?.getD undef = .agg #[.int .i64 x0, .int .i64 x1, .int .i64 x2] := hV 4 _ 45 rfl rfl rfl (Pred.waits_near (by kernel_rfl) (by kernel_rfl))
          have r51 : b.tmps[51]?.getD undef = .int .i64 (x0 + 1) := hV 10 _ 51 rfl rfl rfl (Pred.waits_near (by kernel_rfl) (by kernel_rfl))
          refine Pred.yields_call (f := 8) (args := #[.int .i64 n, .agg #[.int .i64 x0, .int .i64 x1, .int .i64 x2], .int .i64 (x0 + 1)]) (Pred.wanted_none rfl) (by go_simp) ?_
          exact (CU.out _).mono fun e w2 ⟨he, hb⟩ => ⟨_, he, PredS.ext_below hb hE.size, rfl⟩
        · intro b X hE hd hn hV
          have r52 : b.tmps[52]?.getD undef = .tuple #[.agg #[.int .i64 u0, .int .i64 u1, .int .i64 u2], .bool is] := hV 11 _ 52 rfl rfl rfl (Pred.waits_near (by kernel_rfl) (by kernel_rfl))
          exact Pred.yields_run (v := .tuple #[.agg #[.int .i64 u0, .int .i64 u1, .int .i64 u2], .bool is]) (Pred.wanted_none rfl) (by go_simp) ⟨PredS.ext_refl _ _ _, rfl⟩
        · intro b X hE hd hn hV
          have r40 : b.tmps[40]?.getD undef = .tuple #[.agg #[.int .i64 u0, .int .i64 u1, .int .i64 u2], .bool is] := hV 12 _ 40 rfl rfl rfl (Pred.waits_near (by kernel_rfl) (by kernel_rfl))
          exact Pred.yields_run (v := .agg #[.int .i64 u0, .int .i64 u1, .int .i64 u2]) (Pred.wanted_none rfl) (by go_simp) ⟨PredS.ext_refl _ _ _, rfl⟩
        · intro b X hE hd hn hV
          have r40 : b.tmps[40]?.getD undef = .tuple #[.agg #[.int .i64 u0, .int .i64 u1, .int .i64 u2], .bool is] := hV 12 _ 40 rfl rfl rfl (Pred.waits_near (by kernel_rfl) (by kernel_rfl))
          exact Pred.yields_run (v := .bool is) (Pred.wanted_none rfl) (by go_simp) ⟨PredS.ext_refl _ _ _, rfl⟩
        · intro b X hE hd hn hV
          have r54 : b.tmps[54]?.getD undef = .bool is := hV 14 _ 54 rfl rfl rfl (Pred.waits_near (by kernel_rfl) (by kernel_rfl))
          exact Pred.yields_run (v := .bool is) (Pred.wanted_none rfl) (by go_simp) ⟨PredS.ext_refl _ _ _, rfl⟩
      · refine ⟨?_, trivial⟩
        · refine ⟨_, 11, _, rfl, rfl, by simp, rfl, fun ρ w => by first | (go_simp; done) | (go_simp; rfl), rfl, rfl, Pred.waits_near (by kernel_rfl) (by kernel_rfl), fun b X g hE hn hV hp hg hb => ?_⟩
          have r53 : b.tmps[53]?.getD undef = .agg #[.int .i64 u0, .int .i64 u1, .int .i64 u2] := hV 13 _ 53 rfl rfl rfl (Pred.waits_near (by kernel_rfl) (by kernel_rfl))
          simp only at hb
          exact PredS.yields_skip (Pred.wanted_none rfl) (by go_simp) rfl
      intro v w5 hE hv hL
      have e0 : v 0 = .int .i64 (n : Int) := hv 0 _ 41 rfl rfl rfl
      have e1 : v 1 = .slice (some ⟨ga, o, none⟩) N cp := hv 1 _ 42 rfl rfl rfl
      have e2 : v 2 = .int .i64 (t : Int) := hv 2 _ 43 rfl rfl rfl
      have e3 : v 3 = .pointer (some ⟨ga, o + t * 3, none⟩) := hv 3 _ 44 rfl rfl rfl
      have e4 : v 4 = .agg #[.int .i64 x0, .int .i64 x1, .int .i64 x2] := hv 4 _ 45 rfl rfl rfl
      have e5 : v 5 = .slice (some ⟨ga, o, none⟩) N cp := hv 5 _ 46 rfl rfl rfl
      have e6 : v 6 = .int .i64 (t : Int) := hv 6 _ 47 rfl rfl rfl
      have e7 : v 7 = .pointer (some ⟨ga, o + t * 3, none⟩) := hv 7 _ 48 rfl rfl rfl
      have e8 : v 8 = .pointer (some ⟨ga, o + t * 3, none⟩) := hv 8 _ 49 rfl rfl rfl
      have e9 : v 9 = .int .i64 x0 := hv 9 _ 50 rfl rfl rfl
      have e10 : v 10 = .int .i64 (x0 + 1) := hv 10 _ 51 rfl rfl rfl
      have e11 : v 11 = .tuple #[.agg #[.int .i64 u0, .int .i64 u1, .int .i64 u2], .bool is] := hv 11 _ 52 rfl rfl rfl
      have e12 : v 12 = .tuple #[.agg #[.int .i64 u0, .int .i64 u1, .int .i64 u2], .bool is] := hv 12 _ 40 rfl rfl rfl
      have e13 : v 13 = .agg #[.int .i64 u0, .int .i64 u1, .int .i64 u2] := hv 13 _ 53 rfl rfl rfl
      have e14 : v 14 = .bool is := hv 14 _ 54 rfl rfl rfl
      have e17 : v 17 = .bool is := hv 17 _ 12 rfl rfl rfl
      obtain ⟨⟨g15, e15, o15, q15, n15⟩, -⟩ := hL
      replace q15 : blk w5 g15 = some (.cells #[.int .i64 u0, .int .i64 u1, .int .i64 u2] 23 (0, 0)) := q15
      clear n15
      simp only [Pred.putsF_cons, Pred.putsF_nil, Nat.zero_add, Nat.reduceAdd, e0, e1, e2, e3, e4, e5, e6, e7, e8, e9, e10, e11, e12, e13, e14, e15, e17, Act.put, List.setIfInBounds_toArray, List.set_cons_zero, List.set_cons_succ]
      clear e0 e1 e2 e3 e4 e5 e6 e7 e8 e9 e10 e11 e12 e13 e14 e15 e17 hv
      have og : Y0.heap.size ≤ g15 := o15
      replace bP := (blk_below hE _ lP).trans bP
      replace CX := Lib.hid (cx_below hE hbb CX.out)
      replace hbb : ga < w5.heap.size := Nat.lt_of_lt_of_le hbb hE.size
      have LZ : Below w4.heap.size w4 w5 := hbt.trans (hE.mono hbt.size)
      replace lP := blk_lt bP
      have k0 := CX.out.1
      have k1 := CX.out.2.1
      have k2 := CX.out.2.2
      have m0 : w5.cell? ⟨g15, 0, none⟩ = some (.int .i64 u0) := by rw [blk_cell q15]; rfl
      have m1 : w5.cell? ⟨g15, 1, none⟩ = some (.int .i64 u1) := by rw [blk_cell q15]; rfl
      have m2 : w5.cell? ⟨g15, 2, none⟩ = some (.int .i64 u2) := by rw [blk_cell q15]; rfl
      have l0 : w5.cell? ⟨pb, 0, none⟩ = some (.int .i64 p0) := by rw [blk_cell bP]; rfl
      have l1 : w5.cell? ⟨pb, 1, none⟩ = some (.int .i64 p1) := by rw [blk_cell bP]; rfl
      have l2 : w5.cell? ⟨pb, 2, none⟩ = some (.int .i64 p2) := by rw [blk_cell bP]; rfl
      have eI := EI.out
      clear hE hbt LY CU EI q15
      cases is
      case false =>
        have KS : Hid (cntV n [p0, p1, p2] (t + 1) = cntV n [p0, p1, p2] t) := by
          have := ST.out
          exact Lib.hid (by simpa using this)
        clear ST EU
        go_wp2_with fail
        refine (CT.out _).mono ?_
        rintro e w8 ⟨rfl, hb8⟩
        have LZ8 : Below w4.heap.size w4 w8 := LZ.trans (hb8.mono LZ.size)
        clear hb8 CT LZ
        go_upto_region 18 with (fail)
        refine Rd.name_world ?_
        intro w10 hw
        have bR : blk w10 w8.heap.size = some (.cells #[.int .i64 n, .int .i64 0, .int .i64 0] 23 (0, 0)) := by rw [hw]; exact blk_alloc_at _ _ _ rfl
        have LZ10 : Below w4.heap.size w4 w10 := by
          rw [hw]
          have := LZ8.size
          repeat' (first | (with_reducible exact Below.refl _ _) | (with_reducible refine Rd.below_step ?_ (by assumption)) | (with_reducible refine Rd.below_alloc ?_ _) | (with_reducible refine Rd.below_drewN ?_ _) | (with_reducible refine Below.drew ?_) | (with_reducible refine Below.setCell ?_ ?_ _) | (with_reducible refine Rd.below_setRow ?_ ?_ _) | go_size | (simp only [World.size_alloc]; omega) | omega)
        obtain ⟨rb, hrb⟩ : ∃ p, w8.heap.size = p := ⟨_, rfl⟩
        rw [hrb] at bR ⊢
        have lR := blk_lt bR
        have dR : eqL [(n : Int), 0, 0] [(n : Int), 0, 0] = true := decide_eq_true rfl
        clear hw hrb LZ8
        refine Pred.region_vals (Pred.Of [
            Is (.bool true),
            Is (.bool false),
            Is (.bool false),
            Is (.agg #[.int .i64 (n : Int), .int .i64 0, .int .i64 0]),
            Is (.int .i64 (n : Int)),
            Is (.agg #[.int .i64 (n : Int), .int .i64 0, .int .i64 0]),
            Is (.bool false),
            Is (.bool false)]) (by kernel_rfl) (by kernel_rfl) (by kernel_rfl) (Pred.of_stab ?_) ?_ ?_
        · exact ⟨is_stab _, is_stab _, is_stab _, is_stab _, is_stab _, is_stab _, is_stab _, is_stab _, trivial⟩
        · refine ⟨?_, ?_, ?_, ?_, ?_, ?_, ?_, ?_, trivial⟩
          · intro b X hE hd hn hV
            have r14 : b.tmps[14]?.getD undef = .bool true := (hn 14 (by kernel_rfl)).trans rfl
            exact Pred.yields_run (v := .bool true) (Pred.wanted_none rfl) (by go_simp) ⟨Pred.ext_refl _ _, rfl⟩
          · intro b X hE hd hn hV
            have r113 : b.tmps[113]?.getD undef = .bool true := hV 0 _ 113 rfl rfl (Pred.waits_near (by kernel_rfl) (by kernel_rfl))
            exact Pred.yields_run (v := .bool false) (Pred.wanted_none rfl) (by go_simp) ⟨Pred.ext_refl _ _, rfl⟩
          · intro b X hE hd hn hV
            have r114 : b.tmps[114]?.getD undef = .bool false := hV 1 _ 114 rfl rfl (Pred.waits_near (by kernel_rfl) (by kernel_rfl))
            exact Pred.yields_run (v := .bool false) (Pred.wanted_none rfl) (by go_simp) ⟨Pred.ext_refl _ _, rfl⟩
          · intro b X hE hd hn hV
            have r13 : b.tmps[13]?.getD undef = .pointer (some ⟨rb, 0, none⟩) := (hn 13 (by kernel_rfl)).trans rfl
            have r115 : b.tmps[115]?.getD undef = .bool false := hV 2 _ 115 rfl rfl (Pred.waits_near (by kernel_rfl) (by kernel_rfl))
            have q := (blk_below hE _ lR).trans bR
            have z0 : X.cell? ⟨rb, 0, none⟩ = some (.int .i64 (n : Int)) := by rw [blk_cell q]; rfl
            have z1 : X.cell? ⟨rb, 1, none⟩ = some (.int .i64 0) := by rw [blk_cell q]; rfl
            have z2 : X.cell? ⟨rb, 2, none⟩ = some (.int .i64 0) := by rw [blk_cell q]; rfl
            exact Pred.yields_run (v := .agg #[.int .i64 (n : Int), .int .i64 0, .int .i64 0]) ((Pred.wanted_at (g := 2) (d := 115) (f := false) rfl rfl r115).trans rfl) (by go_simp) ⟨Pred.ext_refl _ _, rfl⟩
          · intro b X hE hd hn hV
            have r5 : b.tmps[5]?.getD undef = .int .i64 (n : Int) := (hn 5 (by kernel_rfl)).trans rfl
            have r115 : b.tmps[115]?.getD undef = .bool false := hV 2 _ 115 rfl rfl (Pred.waits_near (by kernel_rfl) (by kernel_rfl))
            exact Pred.yields_run (v := .int .i64 (n : Int)) ((Pred.wanted_at (g := 2) (d := 115) (f := false) rfl rfl r115).trans rfl) (by go_simp) ⟨Pred.ext_refl _ _, rfl⟩
          · intro b X hE hd hn hV
            have r117 : b.tmps[117]?.getD undef = .int .i64 (n : Int) := hV 4 _ 117 rfl rfl (Pred.waits_near (by kernel_rfl) (by kernel_rfl))
            have r115 : b.tmps[115]?.getD undef = .bool false := hV 2 _ 115 rfl rfl (Pred.waits_near (by kernel_rfl) (by kernel_rfl))
            refine Pred.yields_call (f := 17) (args := #[.int .i64 n]) ((Pred.wanted_at (g := 2) (d := 115) (f := false) rfl rfl r115).trans rfl) (by go_simp) ?_
            exact (CR.out _).mono fun e w2 ⟨he, hb⟩ => ⟨_, he, Pred.ext_below hb hE.size, rfl⟩
          · intro b X hE hd hn hV
            have r116 : b.tmps[116]?.getD undef = .agg #[.int .i64 (n : Int), .int .i64 0, .int .i64 0] := hV 3 _ 116 rfl rfl (Pred.waits_near (by kernel_rfl) (by kernel_rfl))
            have r118 : b.tmps[118]?.getD undef = .agg #[.int .i64 (n : Int), .int .i64 0, .int .i64 0] := hV 5 _ 118 rfl rfl (Pred.waits_near (by kernel_rfl) (by kernel_rfl))
            have r115 : b.tmps[115]?.getD undef = .bool false := hV 2 _ 115 rfl rfl (Pred.waits_near (by kernel_rfl) (by kernel_rfl))
            exact Pred.yields_run (v := .bool false) ((Pred.wanted_at (g := 2) (d := 115) (f := false) rfl rfl r115).trans rfl) (by go_simp) ⟨Pred.ext_refl _ _, rfl⟩
          · intro b X hE hd hn hV
            have r115 : b.tmps[115]?.getD undef = .bool false := hV 2 _ 115 rfl rfl (Pred.waits_near (by kernel_rfl) (by kernel_rfl))
            have r119 : b.tmps[119]?.getD undef = .bool false := hV 6 _ 119 rfl rfl (Pred.waits_near (by kernel_rfl) (by kernel_rfl))
            exact Pred.yields_run (v := .bool false) (Pred.wanted_none rfl) (by go_simp) ⟨Pred.ext_refl _ _, rfl⟩
        intro v w9 hE hv
        have e0 : v 0 = .bool true := hv 0 _ 113 rfl rfl
        have e1 : v 1 = .bool false := hv 1 _ 114 rfl rfl
        have e2 : v 2 = .bool false := hv 2 _ 115 rfl rfl
        have e3 : v 3 = .agg #[.int .i64 (n : Int), .int .i64 0, .int .i64 0] := hv 3 _ 116 rfl rfl
        have e4 : v 4 = .int .i64 (n : Int) := hv 4 _ 117 rfl rfl
        have e5 : v 5 = .agg #[.int .i64 (n : Int), .int .i64 0, .int .i64 0] := hv 5 _ 118 rfl rfl
        have e6 : v 6 = .bool false := hv 6 _ 119 rfl rfl
        have e7 : v 7 = .bool false := hv 7 _ 120 rfl rfl
        simp only [Pred.putsF_cons, Pred.putsF_nil, Nat.zero_add, Nat.reduceAdd, e0, e1, e2, e3, e4, e5, e6, e7, Act.put, List.setIfInBounds_toArray, List.set_cons_zero, List.set_cons_succ]
        clear e0 e1 e2 e3 e4 e5 e6 e7 hv
        have LZ9 : Below w4.heap.size w4 w9 := LZ10.trans (hE.mono LZ10.size)
        clear hE LZ10 bR lR
        go_wp2
        go_roundw
        case rel => exact ⟨t + 1, by omega, congrArg (Value.int .i64) KS.out.symm, by go_num, LZ9⟩
        case measure => simp [intOf]; omega
      case true =>
        by_cases he : [u0, u1, u2] = [p0, p1, p2]
        · have KS : Hid (cntV n [p0, p1, p2] (t + 1) = cntV n [p0, p1, p2] t + 1) := by
            have := ST.out
            rw [he] at this
            exact Lib.hid (by simpa using this)
          have d0 : eqL [u0, u1, u2] [p0, p1, p2] = true := decide_eq_true he
          have hu := EU.out rfl
          rw [he] at hu
          have f0 : p0 = x0 + 1 := by injection hu
          have f1 : p1 = x1 / 2 := by injection hu with _ hu; injection hu
          have f2 : p2 = x2 / 2 := by injection hu with _ hu; injection hu with _ hu; injection hu
          have w79 : IntKind.wrap .i64 (p0 - 1) = p0 - 1 := by rw [f0]; exact wrap_small (by omega) (by omega)
          have f80 : (x0 != p0 - 1) = false := by rw [f0]; simp
          have f87 : x1.tdiv 2 = p1 := (half hx2).trans f1.symm
          have f98 : x2.tdiv 2 = p2 := (half hx4).trans f2.symm
          have w87 : IntKind.wrap .i64 p1 = p1 := by exact wrap_small (by rw [f1]; omega) (by rw [f1]; omega)
          have w98 : IntKind.wrap .i64 p2 = p2 := by exact wrap_small (by rw [f2]; omega) (by rw [f2]; omega)
          clear ST EU he hu f0 f1 f2
          go_upto_region 15 with (fail)
          refine Pred.region_vals (Pred.Of [
              Is (.slice (some ⟨ga, o, none⟩) N cp),
              Is (.int .i64 (t : Int)),
              Is (.pointer (some ⟨ga, o + t * 3, none⟩)),
              Is (.pointer (some ⟨ga, o + t * 3, none⟩)),
              Is (.int .i64 x0),
              Is (.pointer (some ⟨pb, 0, none⟩)),
              Is (.int .i64 p0),
              Is (.int .i64 (p0 - 1)),
              Is (.bool false),
              Is (.bool false),
              Is (.slice (some ⟨ga, o, none⟩) N cp),
              Is (.int .i64 (t : Int)),
              Is (.pointer (some ⟨ga, o + t * 3, none⟩)),
              Is (.pointer (some ⟨ga, o + t * 3 + 1, none⟩)),
              Is (.int .i64 x1),
              Is (.int .i64 p1),
              Is (.pointer (some ⟨pb, 1, none⟩)),
              Is (.int .i64 p1),
              Is (.bool false),
              Is (.bool false),
              Is (.bool false),
              Is (.slice (some ⟨ga, o, none⟩) N cp),
              Is (.int .i64 (t : Int)),
              Is (.pointer (some ⟨ga, o + t * 3, none⟩)),
              Is (.pointer (some ⟨ga, o + t * 3 + 2, none⟩)),
              Is (.int .i64 x2),
              Is (.int .i64 p2),
              Is (.pointer (some ⟨pb, 2, none⟩)),
              Is (.int .i64 p2),
              Is (.bool false),
              Is (.bool false)]) (by kernel_rfl) (by kernel_rfl) (by kernel_rfl) (Pred.of_stab ?_) ?_ ?_
          · exact ⟨is_stab _, is_stab _, is_stab _, is_stab _, is_stab _, is_stab _, is_stab _, is_stab _, is_stab _, is_stab _, is_stab _, is_stab _, is_stab _, is_stab _, is_stab _, is_stab _, is_stab _, is_stab _, is_stab _, is_stab _, is_stab _, is_stab _, is_stab _, is_stab _, is_stab _, is_stab _, is_stab _, is_stab _, is_stab _, is_stab _, is_stab _, trivial⟩
          · refine ⟨?_, ?_, ?_, ?_, ?_, ?_, ?_, ?_, ?_, ?_, ?_, ?_, ?_, ?_, ?_, ?_, ?_, ?_, ?_, ?_, ?_, ?_, ?_, ?_, ?_, ?_, ?_, ?_, ?_, ?_, ?_, trivial⟩
            · intro b X hE hd hn hV
              have r9 : b.tmps[9]?.getD undef = .slice (some ⟨ga, o, none⟩) N cp := (hn 9 (by kernel_rfl)).trans rfl
              exact Pred.yields_run (v := .slice (some ⟨ga, o, none⟩) N cp) (Pred.wanted_none rfl) (by go_simp) ⟨Pred.ext_refl _ _, rfl⟩
            · intro b X hE hd hn hV
              have r10 : b.tmps[10]?.getD undef = .int .i64 (t : Int) := (hn 10 (by kernel_rfl)).trans rfl
              exact Pred.yields_run (v := .int .i64 (t : Int)) (Pred.wanted_none rfl) (by go_simp) ⟨Pred.ext_refl _ _, rfl⟩
            · intro b X hE hd hn hV
              have r72 : b.tmps[72]?.getD undef = .slice (some ⟨ga, o, none⟩) N cp := hV 0 _ 72 rfl rfl (Pred.waits_near (by kernel_rfl) (by kernel_rfl))
              have r73 : b.tmps[73]?.getD undef = .int .i64 (t : Int) := hV 1 _ 73 rfl rfl (Pred.waits_near (by kernel_rfl) (by kernel_rfl))
              exact Pred.yields_run (v := .pointer (some ⟨ga, o + t * 3, none⟩)) (Pred.wanted_none rfl) (by go_simp) ⟨Pred.ext_refl _ _, rfl⟩
            · intro b X hE hd hn hV
              have r74 : b.tmps[74]?.getD undef = .pointer (some ⟨ga, o + t * 3, none⟩) := hV 2 _ 74 rfl rfl (Pred.waits_near (by kernel_rfl) (by kernel_rfl))
              exact Pred.yields_run (v := .pointer (some ⟨ga, o + t * 3, none⟩)) (Pred.wanted_none rfl) (by go_simp) ⟨Pred.ext_refl _ _, rfl⟩
            · intro b X hE hd hn hV
              have r75 : b.tmps[75]?.getD undef = .pointer (some ⟨ga, o + t * 3, none⟩) := hV 3 _ 75 rfl rfl (Pred.waits_near (by kernel_rfl) (by kernel_rfl))
              obtain ⟨z0, z1, z2⟩ := cx_below hE hbb CX.out
              exact Pred.yields_run (v := .int .i64 x0) (Pred.wanted_none rfl) (by go_simp) ⟨Pred.ext_refl _ _, rfl⟩
            · intro b X hE hd hn hV
              have r6 : b.tmps[6]?.getD undef = .pointer (some ⟨pb, 0, none⟩) := (hn 6 (by kernel_rfl)).trans rfl
              exact Pred.yields_run (v := .pointer (some ⟨pb, 0, none⟩)) (Pred.wanted_none rfl) (by go_simp) ⟨Pred.ext_refl _ _, rfl⟩
            · intro b X hE hd hn hV
              have r77 : b.tmps[77]?.getD undef = .pointer (some ⟨pb, 0, none⟩) := hV 5 _ 77 rfl rfl (Pred.waits_near (by kernel_rfl) (by kernel_rfl))
              have q := (blk_below hE _ lP).trans bP
              have z : X.cell? ⟨pb, 0, none⟩ = some (.int .i64 p0) := by rw [blk_cell q]; rfl
              exact Pred.yields_run (v := .int .i64 p0) (Pred.wanted_none rfl) (by go_simp) ⟨Pred.ext_refl _ _, rfl⟩
            · intro b X hE hd hn hV
              have r78 : b.tmps[78]?.getD undef = .int .i64 p0 := hV 6 _ 78 rfl rfl (Pred.waits_near (by kernel_rfl) (by kernel_rfl))
              exact Pred.yields_run (v := .int .i64 (p0 - 1)) (Pred.wanted_none rfl) (by go_simp) ⟨Pred.ext_refl _ _, rfl⟩
            · intro b X hE hd hn hV
              have r76 : b.tmps[76]?.getD undef = .int .i64 x0 := hV 4 _ 76 rfl rfl (Pred.waits_near (by kernel_rfl) (by kernel_rfl))
              have r79 : b.tmps[79]?.getD undef = .int .i64 (p0 - 1) := hV 7 _ 79 rfl rfl (Pred.waits_near (by kernel_rfl) (by kernel_rfl))
              exact Pred.yields_run (v := .bool false) (Pred.wanted_none rfl) (by go_simp) ⟨Pred.ext_refl _ _, rfl⟩
            · intro b X hE hd hn hV
              have r80 : b.tmps[80]?.getD undef = .bool false := hV 8 _ 80 rfl rfl (Pred.waits_near (by kernel_rfl) (by kernel_rfl))
              exact Pred.yields_run (v := .bool false) (Pred.wanted_none rfl) (by go_simp) ⟨Pred.ext_refl _ _, rfl⟩
            · intro b X hE hd hn hV
              have r9 : b.tmps[9]?.getD undef = .slice (some ⟨ga, o, none⟩) N cp := (hn 9 (by kernel_rfl)).trans rfl
              have r81 : b.tmps[81]?.getD undef = .bool false := hV 9 _ 81 rfl rfl (Pred.waits_near (by kernel_rfl) (by kernel_rfl))
              exact Pred.yields_run (v := .slice (some ⟨ga, o, none⟩) N cp) ((Pred.wanted_at (g := 9) (d := 81) (f := false) rfl rfl r81).trans rfl) (by go_simp) ⟨Pred.ext_refl _ _, rfl⟩
            · intro b X hE hd hn hV
              have r10 : b.tmps[10]?.getD undef = .int .i64 (t : Int) := (hn 10 (by kernel_rfl)).trans rfl
              have r81 : b.tmps[81]?.getD undef = .bool false := hV 9 _ 81 rfl rfl (Pred.waits_near (by kernel_rfl) (by kernel_rfl))
              exact Pred.yields_run (v := .int .i64 (t : Int)) ((Pred.wanted_at (g := 9) (d := 81) (f := false) rfl rfl r81).trans rfl) (by go_simp) ⟨Pred.ext_refl _ _, rfl⟩
            · intro b X hE hd hn hV
              have r82 : b.tmps[82]?.getD undef = .slice (some ⟨ga, o, none⟩) N cp := hV 10 _ 82 rfl rfl (Pred.waits_near (by kernel_rfl) (by kernel_rfl))
              have r83 : b.tmps[83]?.getD undef = .int .i64 (t : Int) := hV 11 _ 83 rfl rfl (Pred.waits_near (by kernel_rfl) (by kernel_rfl))
              have r81 : b.tmps[81]?.getD undef = .bool false := hV 9 _ 81 rfl rfl (Pred.waits_near (by kernel_rfl) (by kernel_rfl))
              exact Pred.yields_run (v := .pointer (some ⟨ga, o + t * 3, none⟩)) ((Pred.wanted_at (g := 9) (d := 81) (f := false) rfl rfl r81).trans rfl) (by go_simp) ⟨Pred.ext_refl _ _, rfl⟩
            · intro b X hE hd hn hV
              have r84 : b.tmps[84]?.getD undef = .pointer (some ⟨ga, o + t * 3, none⟩) := hV 12 _ 84 rfl rfl (Pred.waits_near (by kernel_rfl) (by kernel_rfl))
              have r81 : b.tmps[81]?.getD undef = .bool false := hV 9 _ 81 rfl rfl (Pred.waits_near (by kernel_rfl) (by kernel_rfl))
              exact Pred.yields_run (v := .pointer (some ⟨ga, o + t * 3 + 1, none⟩)) ((Pred.wanted_at (g := 9) (d := 81) (f := false) rfl rfl r81).trans rfl) (by go_simp) ⟨Pred.ext_refl _ _, rfl⟩
            · intro b X hE hd hn hV
              have r85 : b.tmps[85]?.getD undef = .pointer (some ⟨ga, o + t * 3 + 1, none⟩) := hV 13 _ 85 rfl rfl (Pred.waits_near (by kernel_rfl) (by kernel_rfl))
              have r81 : b.tmps[81]?.getD undef = .bool false := hV 9 _ 81 rfl rfl (Pred.waits_near (by kernel_rfl) (by kernel_rfl))
              obtain ⟨z0, z1, z2⟩ := cx_below hE hbb CX.out
              exact Pred.yields_run (v := .int .i64 x1) ((Pred.wanted_at (g := 9) (d := 81) (f := false) rfl rfl r81).trans rfl) (by go_simp) ⟨Pred.ext_refl _ _, rfl⟩
            · intro b X hE hd hn hV
              have r86 : b.tmps[86]?.getD undef = .int .i64 x1 := hV 14 _ 86 rfl rfl (Pred.waits_near (by kernel_rfl) (by kernel_rfl))
              have r81 : b.tmps[81]?.getD undef = .bool false := hV 9 _ 81 rfl rfl (Pred.waits_near (by kernel_rfl) (by kernel_rfl))
              exact Pred.yields_run (v := .int .i64 p1) ((Pred.wanted_at (g := 9) (d := 81) (f := false) rfl rfl r81).trans rfl) (by go_simp) ⟨Pred.ext_refl _ _, rfl⟩
            · intro b X hE hd hn hV
              have r6 : b.tmps[6]?.getD undef = .pointer (some ⟨pb, 0, none⟩) := (hn 6 (by kernel_rfl)).trans rfl
              have r81 : b.tmps[81]?.getD undef = .bool false := hV 9 _ 81 rfl rfl (Pred.waits_near (by kernel_rfl) (by kernel_rfl))
              exact Pred.yields_run (v := .pointer (some ⟨pb, 1, none⟩)) ((Pred.wanted_at (g := 9) (d := 81) (f := false) rfl rfl r81).trans rfl) (by go_simp) ⟨Pred.ext_refl _ _, rfl⟩
            · intro b X hE hd hn hV
              have r88 : b.tmps[88]?.getD undef = .pointer (some ⟨pb, 1, none⟩) := hV 16 _ 88 rfl rfl (Pred.waits_near (by kernel_rfl) (by kernel_rfl))
              have r81 : b.tmps[81]?.getD undef = .bool false := hV 9 _ 81 rfl rfl (Pred.waits_near (by kernel_rfl) (by kernel_rfl))
              have q := (blk_below hE _ lP).trans bP
              have z : X.cell? ⟨pb, 1, none⟩ = some (.int .i64 p1) := by rw [blk_cell q]; rfl
              exact Pred.yields_run (v := .int .i64 p1) ((Pred.wanted_at (g := 9) (d := 81) (f := false) rfl rfl r81).trans rfl) (by go_simp) ⟨Pred.ext_refl _ _, rfl⟩
            · intro b X hE hd hn hV
              have r87 : b.tmps[87]?.getD undef = .int .i64 p1 := hV 15 _ 87 rfl rfl (Pred.waits_near (by kernel_rfl) (by kernel_rfl))
              have r89 : b.tmps[89]?.getD undef = .int .i64 p1 := hV 17 _ 89 rfl rfl (Pred.waits_near (by kernel_rfl) (by kernel_rfl))
              have r81 : b.tmps[81]?.getD undef = .bool false := hV 9 _ 81 rfl rfl (Pred.waits_near (by kernel_rfl) (by kernel_rfl))
              exact Pred.yields_run (v := .bool false) ((Pred.wanted_at (g := 9) (d := 81) (f := false) rfl rfl r81).trans rfl) (by go_simp) ⟨Pred.ext_refl _ _, rfl⟩
            · intro b X hE hd hn hV
              have r81 : b.tmps[81]?.getD undef = .bool false := hV 9 _ 81 rfl rfl (Pred.waits_near (by kernel_rfl) (by kernel_rfl))
              have r90 : b.tmps[90]?.getD undef = .bool false := hV 18 _ 90 rfl rfl (Pred.waits_near (by kernel_rfl) (by kernel_rfl))
              exact Pred.yields_run (v := .bool false) (Pred.wanted_none rfl) (by go_simp) ⟨Pred.ext_refl _ _, rfl⟩
            · intro b X hE hd hn hV
              have r91 : b.tmps[91]?.getD undef = .bool false := hV 19 _ 91 rfl rfl (Pred.waits_near (by kernel_rfl) (by kernel_rfl))
              exact Pred.yields_run (v := .bool false) (Pred.wanted_none rfl) (by go_simp) ⟨Pred.ext_refl _ _, rfl⟩
            · intro b X hE hd hn hV
              have r9 : b.tmps[9]?.getD undef = .slice (some ⟨ga, o, none⟩) N cp := (hn 9 (by kernel_rfl)).trans rfl
              have r92 : b.tmps[92]?.getD undef = .bool false := hV 20 _ 92 rfl rfl (Pred.waits_near (by kernel_rfl) (by kernel_rfl))
              exact Pred.yields_run (v := .slice (some ⟨ga, o, none⟩) N cp) ((Pred.wanted_at (g := 20) (d := 92) (f := false) rfl rfl r92).trans rfl) (by go_simp) ⟨Pred.ext_refl _ _, rfl⟩
            · intro b X hE hd hn hV
              have r10 : b.tmps[10]?.getD undef = .int .i64 (t : Int) := (hn 10 (by kernel_rfl)).trans rfl
              have r92 : b.tmps[92]?.getD undef = .bool false := hV 20 _ 92 rfl rfl (Pred.waits_near (by kernel_rfl) (by kernel_rfl))
              exact Pred.yields_run (v := .int .i64 (t : Int)) ((Pred.wanted_at (g := 20) (d := 92) (f := false) rfl rfl r92).trans rfl) (by go_simp) ⟨Pred.ext_refl _ _, rfl⟩
            · intro b X hE hd hn hV
              have r93 : b.tmps[93]?.getD undef = .slice (some ⟨ga, o, none⟩) N cp := hV 21 _ 93 rfl rfl (Pred.waits_near (by kernel_rfl) (by kernel_rfl))
              have r94 : b.tmps[94]?.getD undef = .int .i64 (t : Int) := hV 22 _ 94 rfl rfl (Pred.waits_near (by kernel_rfl) (by kernel_rfl))
              have r92 : b.tmps[92]?.getD undef = .bool false := hV 20 _ 92 rfl rfl (Pred.waits_near (by kernel_rfl) (by kernel_rfl))
              exact Pred.yields_run (v := .pointer (some ⟨ga, o + t * 3, none⟩)) ((Pred.wanted_at (g := 20) (d := 92) (f := false) rfl rfl r92).trans rfl) (by go_simp) ⟨Pred.ext_refl _ _, rfl⟩
            · intro b X hE hd hn hV
              have r95 : b.tmps[95]?.getD undef = .pointer (some ⟨ga, o + t * 3, none⟩) := hV 23 _ 95 rfl rfl (Pred.waits_near (by kernel_rfl) (by kernel_rfl))
              have r92 : b.tmps[92]?.getD undef = .bool false := hV 20 _ 92 rfl rfl (Pred.waits_near (by kernel_rfl) (by kernel_rfl))
              exact Pred.yields_run (v := .pointer (some ⟨ga, o + t * 3 + 2, none⟩)) ((Pred.wanted_at (g := 20) (d := 92) (f := false) rfl rfl r92).trans rfl) (by go_simp) ⟨Pred.ext_refl _ _, rfl⟩
            · intro b X hE hd hn hV
              have r96 : b.tmps[96]?.getD undef = .pointer (some ⟨ga, o + t * 3 + 2, none⟩) := hV 24 _ 96 rfl rfl (Pred.waits_near (by kernel_rfl) (by kernel_rfl))
              have r92 : b.tmps[92]?.getD undef = .bool false := hV 20 _ 92 rfl rfl (Pred.waits_near (by kernel_rfl) (by kernel_rfl))
              obtain ⟨z0, z1, z2⟩ := cx_below hE hbb CX.out
              exact Pred.yields_run (v := .int .i64 x2) ((Pred.wanted_at (g := 20) (d := 92) (f := false) rfl rfl r92).trans rfl) (by go_simp) ⟨Pred.ext_refl _ _, rfl⟩
            · intro b X hE hd hn hV
              have r97 : b.tmps[97]?.getD undef = .int .i64 x2 := hV 25 _ 97 rfl rfl (Pred.waits_near (by kernel_rfl) (by kernel_rfl))
              have r92 : b.tmps[92]?.getD undef = .bool false := hV 20 _ 92 rfl rfl (Pred.waits_near (by kernel_rfl) (by kernel_rfl))
              exact Pred.yields_run (v := .int .i64 p2) ((Pred.wanted_at (g := 20) (d := 92) (f := false) rfl rfl r92).trans rfl) (by go_simp) ⟨Pred.ext_refl _ _, rfl⟩
            · intro b X hE hd hn hV
              have r6 : b.tmps[6]?.getD undef = .pointer (some ⟨pb, 0, none⟩) := (hn 6 (by kernel_rfl)).trans rfl
              have r92 : b.tmps[92]?.getD undef = .bool false := hV 20 _ 92 rfl rfl (Pred.waits_near (by kernel_rfl) (by kernel_rfl))
              exact Pred.yields_run (v := .pointer (some ⟨pb, 2, none⟩)) ((Pred.wanted_at (g := 20) (d := 92) (f := false) rfl rfl r92).trans rfl) (by go_simp) ⟨Pred.ext_refl _ _, rfl⟩
            · intro b X hE hd hn hV
              have r99 : b.tmps[99]?.getD undef = .pointer (some ⟨pb, 2, none⟩) := hV 27 _ 99 rfl rfl (Pred.waits_near (by kernel_rfl) (by kernel_rfl))
              have r92 : b.tmps[92]?.getD undef = .bool false := hV 20 _ 92 rfl rfl (Pred.waits_near (by kernel_rfl) (by kernel_rfl))
              have q := (blk_below hE _ lP).trans bP
              have z : X.cell? ⟨pb, 2, none⟩ = some (.int .i64 p2) := by rw [blk_cell q]; rfl
              exact Pred.yields_run (v := .int .i64 p2) ((Pred.wanted_at (g := 20) (d := 92) (f := false) rfl rfl r92).trans rfl) (by go_simp) ⟨Pred.ext_refl _ _, rfl⟩
            · intro b X hE hd hn hV
              have r98 : b.tmps[98]?.getD undef = .int .i64 p2 := hV 26 _ 98 rfl rfl (Pred.waits_near (by kernel_rfl) (by kernel_rfl))
              have r100 : b.tmps[100]?.getD undef = .int .i64 p2 := hV 28 _ 100 rfl rfl (Pred.waits_near (by kernel_rfl) (by kernel_rfl))
              have r92 : b.tmps[92]?.getD undef = .bool false := hV 20 _ 92 rfl rfl (Pred.waits_near (by kernel_rfl) (by kernel_rfl))
              exact Pred.yields_run (v := .bool false) ((Pred.wanted_at (g := 20) (d := 92) (f := false) rfl rfl r92).trans rfl) (by go_simp) ⟨Pred.ext_refl _ _, rfl⟩
            · intro b X hE hd hn hV
              have r92 : b.tmps[92]?.getD undef = .bool false := hV 20 _ 92 rfl rfl (Pred.waits_near (by kernel_rfl) (by kernel_rfl))
              have r101 : b.tmps[101]?.getD undef = .bool false := hV 29 _ 101 rfl rfl (Pred.waits_near (by kernel_rfl) (by kernel_rfl))
              exact Pred.yields_run (v := .bool false) (Pred.wanted_none rfl) (by go_simp) ⟨Pred.ext_refl _ _, rfl⟩
          intro v w7 hE hv
          have e0 : v 0 = .slice (some ⟨ga, o, none⟩) N cp := hv 0 _ 72 rfl rfl
          have e1 : v 1 = .int .i64 (t : Int) := hv 1 _ 73 rfl rfl
          have e2 : v 2 = .pointer (some ⟨ga, o + t * 3, none⟩) := hv 2 _ 74 rfl rfl
          have e3 : v 3 = .pointer (some ⟨ga, o + t * 3, none⟩) := hv 3 _ 75 rfl rfl
          have e4 : v 4 = .int .i64 x0 := hv 4 _ 76 rfl rfl
          have e5 : v 5 = .pointer (some ⟨pb, 0, none⟩) := hv 5 _ 77 rfl rfl
          have e6 : v 6 = .int .i64 p0 := hv 6 _ 78 rfl rfl
          have e7 : v 7 = .int .i64 (p0 - 1) := hv 7 _ 79 rfl rfl
          have e8 : v 8 = .bool false := hv 8 _ 80 rfl rfl
          have e9 : v 9 = .bool false := hv 9 _ 81 rfl rfl
          have e10 : v 10 = .slice (some ⟨ga, o, none⟩) N cp := hv 10 _ 82 rfl rfl
          have e11 : v 11 = .int .i64 (t : Int) := hv 11 _ 83 rfl rfl
          have e12 : v 12 = .pointer (some ⟨ga, o + t * 3, none⟩) := hv 12 _ 84 rfl rfl
          have e13 : v 13 = .pointer (some ⟨ga, o + t * 3 + 1, none⟩) := hv 13 _ 85 rfl rfl
          have e14 : v 14 = .int .i64 x1 := hv 14 _ 86 rfl rfl
          have e15 : v 15 = .int .i64 p1 := hv 15 _ 87 rfl rfl
          have e16 : v 16 = .pointer (some ⟨pb, 1, none⟩) := hv 16 _ 88 rfl rfl
          have e17 : v 17 = .int .i64 p1 := hv 17 _ 89 rfl rfl
          have e18 : v 18 = .bool false := hv 18 _ 90 rfl rfl
          have e19 : v 19 = .bool false := hv 19 _ 91 rfl rfl
          have e20 : v 20 = .bool false := hv 20 _ 92 rfl rfl
          have e21 : v 21 = .slice (some ⟨ga, o, none⟩) N cp := hv 21 _ 93 rfl rfl
          have e22 : v 22 = .int .i64 (t : Int) := hv 22 _ 94 rfl rfl
          have e23 : v 23 = .pointer (some ⟨ga, o + t * 3, none⟩) := hv 23 _ 95 rfl rfl
          have e24 : v 24 = .pointer (some ⟨ga, o + t * 3 + 2, none⟩) := hv 24 _ 96 rfl rfl
          have e25 : v 25 = .int .i64 x2 := hv 25 _ 97 rfl rfl
          have e26 : v 26 = .int .i64 p2 := hv 26 _ 98 rfl rfl
          have e27 : v 27 = .pointer (some ⟨pb, 2, none⟩) := hv 27 _ 99 rfl rfl
          have e28 : v 28 = .int .i64 p2 := hv 28 _ 100 rfl rfl
          have e29 : v 29 = .bool false := hv 29 _ 101 rfl rfl
          have e30 : v 30 = .bool false := hv 30 _ 102 rfl rfl
          simp only [Pred.putsF_cons, Pred.putsF_nil, Nat.zero_add, Nat.reduceAdd, e0, e1, e2, e3, e4, e5, e6, e7, e8, e9, e10, e11, e12, e13, e14, e15, e16, e17, e18, e19, e20, e21, e22, e23, e24, e25, e26, e27, e28, e29, e30, Act.put, List.setIfInBounds_toArray, List.set_cons_zero, List.set_cons_succ]
          clear e0 e1 e2 e3 e4 e5 e6 e7 e8 e9 e10 e11 e12 e13 e14 e15 e16 e17 e18 e19 e20 e21 e22 e23 e24 e25 e26 e27 e28 e29 e30 hv
          replace CX := Lib.hid (cx_below hE hbb CX.out)
          replace LZ : Below w4.heap.size w4 w7 := LZ.trans (hE.mono LZ.size)
          replace k0 := CX.out.1
          replace k1 := CX.out.2.1
          replace k2 := CX.out.2.2
          clear hE m0 m1 m2 l0 l1 l2 w79 f80 f87 f98 w87 w98
          go_wp2_with fail
          refine (CT.out _).mono ?_
          rintro e w8 ⟨rfl, hb8⟩
          have LZ8 : Below w4.heap.size w4 w8 := LZ.trans (hb8.mono LZ.size)
          clear hb8 CT LZ
          go_upto_region 18 with (fail)
          refine Rd.name_world ?_
          intro w10 hw
          have bR : blk w10 w8.heap.size = some (.cells #[.int .i64 n, .int .i64 0, .int .i64 0] 23 (0, 0)) := by rw [hw]; exact blk_alloc_at _ _ _ rfl
          have LZ10 : Below w4.heap.size w4 w10 := by
            rw [hw]
            have := LZ8.size
            repeat' (first | (with_reducible exact Below.refl _ _) | (with_reducible refine Rd.below_step ?_ (by assumption)) | (with_reducible refine Rd.below_alloc ?_ _) | (with_reducible refine Rd.below_drewN ?_ _) | (with_reducible refine Below.drew ?_) | (with_reducible refine Below.setCell ?_ ?_ _) | (with_reducible refine Rd.below_setRow ?_ ?_ _) | go_size | (simp only [World.size_alloc]; omega) | omega)
          obtain ⟨rb, hrb⟩ : ∃ p, w8.heap.size = p := ⟨_, rfl⟩
          rw [hrb] at bR ⊢
          have lR := blk_lt bR
          have dR : eqL [(n : Int), 0, 0] [(n : Int), 0, 0] = true := decide_eq_true rfl
          clear hw hrb LZ8
          refine Pred.region_vals (Pred.Of [
              Is (.bool true),
              Is (.bool false),
              Is (.bool false),
              Is (.agg #[.int .i64 (n : Int), .int .i64 0, .int .i64 0]),
              Is (.int .i64 (n : Int)),
              Is (.agg #[.int .i64 (n : Int), .int .i64 0, .int .i64 0]),
              Is (.bool false),
              Is (.bool false)]) (by kernel_rfl) (by kernel_rfl) (by kernel_rfl) (Pred.of_stab ?_) ?_ ?_
          · exact ⟨is_stab _, is_stab _, is_stab _, is_stab _, is_stab _, is_stab _, is_stab _, is_stab _, trivial⟩
          · refine ⟨?_, ?_, ?_, ?_, ?_, ?_, ?_, ?_, trivial⟩
            · intro b X hE hd hn hV
              have r14 : b.tmps[14]?.getD undef = .bool true := (hn 14 (by kernel_rfl)).trans rfl
              exact Pred.yields_run (v := .bool true) (Pred.wanted_none rfl) (by go_simp) ⟨Pred.ext_refl _ _, rfl⟩
            · intro b X hE hd hn hV
              have r113 : b.tmps[113]?.getD undef = .bool true := hV 0 _ 113 rfl rfl (Pred.waits_near (by kernel_rfl) (by kernel_rfl))
              exact Pred.yields_run (v := .bool false) (Pred.wanted_none rfl) (by go_simp) ⟨Pred.ext_refl _ _, rfl⟩
            · intro b X hE hd hn hV
              have r114 : b.tmps[114]?.getD undef = .bool false := hV 1 _ 114 rfl rfl (Pred.waits_near (by kernel_rfl) (by kernel_rfl))
              exact Pred.yields_run (v := .bool false) (Pred.wanted_none rfl) (by go_simp) ⟨Pred.ext_refl _ _, rfl⟩
            · intro b X hE hd hn hV
              have r13 : b.tmps[13]?.getD undef = .pointer (some ⟨rb, 0, none⟩) := (hn 13 (by kernel_rfl)).trans rfl
              have r115 : b.tmps[115]?.getD undef = .bool false := hV 2 _ 115 rfl rfl (Pred.waits_near (by kernel_rfl) (by kernel_rfl))
              have q := (blk_below hE _ lR).trans bR
              have z0 : X.cell? ⟨rb, 0, none⟩ = some (.int .i64 (n : Int)) := by rw [blk_cell q]; rfl
              have z1 : X.cell? ⟨rb, 1, none⟩ = some (.int .i64 0) := by rw [blk_cell q]; rfl
              have z2 : X.cell? ⟨rb, 2, none⟩ = some (.int .i64 0) := by rw [blk_cell q]; rfl
              exact Pred.yields_run (v := .agg #[.int .i64 (n : Int), .int .i64 0, .int .i64 0]) ((Pred.wanted_at (g := 2) (d := 115) (f := false) rfl rfl r115).trans rfl) (by go_simp) ⟨Pred.ext_refl _ _, rfl⟩
            · intro b X hE hd hn hV
              have r5 : b.tmps[5]?.getD undef = .int .i64 (n : Int) := (hn 5 (by kernel_rfl)).trans rfl
              have r115 : b.tmps[115]?.getD undef = .bool false := hV 2 _ 115 rfl rfl (Pred.waits_near (by kernel_rfl) (by kernel_rfl))
              exact Pred.yields_run (v := .int .i64 (n : Int)) ((Pred.wanted_at (g := 2) (d := 115) (f := false) rfl rfl r115).trans rfl) (by go_simp) ⟨Pred.ext_refl _ _, rfl⟩
            · intro b X hE hd hn hV
              have r117 : b.tmps[117]?.getD undef = .int .i64 (n : Int) := hV 4 _ 117 rfl rfl (Pred.waits_near (by kernel_rfl) (by kernel_rfl))
              have r115 : b.tmps[115]?.getD undef = .bool false := hV 2 _ 115 rfl rfl (Pred.waits_near (by kernel_rfl) (by kernel_rfl))
              refine Pred.yields_call (f := 17) (args := #[.int .i64 n]) ((Pred.wanted_at (g := 2) (d := 115) (f := false) rfl rfl r115).trans rfl) (by go_simp) ?_
              exact (CR.out _).mono fun e w2 ⟨he, hb⟩ => ⟨_, he, Pred.ext_below hb hE.size, rfl⟩
            · intro b X hE hd hn hV
              have r116 : b.tmps[116]?.getD undef = .agg #[.int .i64 (n : Int), .int .i64 0, .int .i64 0] := hV 3 _ 116 rfl rfl (Pred.waits_near (by kernel_rfl) (by kernel_rfl))
              have r118 : b.tmps[118]?.getD undef = .agg #[.int .i64 (n : Int), .int .i64 0, .int .i64 0] := hV 5 _ 118 rfl rfl (Pred.waits_near (by kernel_rfl) (by kernel_rfl))
              have r115 : b.tmps[115]?.getD undef = .bool false := hV 2 _ 115 rfl rfl (Pred.waits_near (by kernel_rfl) (by kernel_rfl))
              exact Pred.yields_run (v := .bool false) ((Pred.wanted_at (g := 2) (d := 115) (f := false) rfl rfl r115).trans rfl) (by go_simp) ⟨Pred.ext_refl _ _, rfl⟩
            · intro b X hE hd hn hV
              have r115 : b.tmps[115]?.getD undef = .bool false := hV 2 _ 115 rfl rfl (Pred.waits_near (by kernel_rfl) (by kernel_rfl))
              have r119 : b.tmps[119]?.getD undef = .bool false := hV 6 _ 119 rfl rfl (Pred.waits_near (by kernel_rfl) (by kernel_rfl))
              exact Pred.yields_run (v := .bool false) (Pred.wanted_none rfl) (by go_simp) ⟨Pred.ext_refl _ _, rfl⟩
          intro v w9 hE hv
          have e0 : v 0 = .bool true := hv 0 _ 113 rfl rfl
          have e1 : v 1 = .bool false := hv 1 _ 114 rfl rfl
          have e2 : v 2 = .bool false := hv 2 _ 115 rfl rfl
          have e3 : v 3 = .agg #[.int .i64 (n : Int), .int .i64 0, .int .i64 0] := hv 3 _ 116 rfl rfl
          have e4 : v 4 = .int .i64 (n : Int) := hv 4 _ 117 rfl rfl
          have e5 : v 5 = .agg #[.int .i64 (n : Int), .int .i64 0, .int .i64 0] := hv 5 _ 118 rfl rfl
          have e6 : v 6 = .bool false := hv 6 _ 119 rfl rfl
          have e7 : v 7 = .bool false := hv 7 _ 120 rfl rfl
          simp only [Pred.putsF_cons, Pred.putsF_nil, Nat.zero_add, Nat.reduceAdd, e0, e1, e2, e3, e4, e5, e6, e7, Act.put, List.setIfInBounds_toArray, List.set_cons_zero, List.set_cons_succ]
          clear e0 e1 e2 e3 e4 e5 e6 e7 hv
          have LZ9 : Below w4.heap.size w4 w9 := LZ10.trans (hE.mono LZ10.size)
          clear hE LZ10 bR lR
          go_wp2
          go_roundw
          case rel => exact ⟨t + 1, by omega, congrArg (Value.int .i64) KS.out.symm, by go_num, LZ9⟩
          case measure => simp [intOf]; omega
        · have KS : Hid (cntV n [p0, p1, p2] (t + 1) = cntV n [p0, p1, p2] t) := by
            have := ST.out
            rw [decide_eq_false he] at this
            exact Lib.hid (by simpa using this)
          have d0 : eqL [u0, u1, u2] [p0, p1, p2] = false := decide_eq_false he
          clear ST EU he
          go_wp2_with fail
          refine (CT.out _).mono ?_
          rintro e w8 ⟨rfl, hb8⟩
          have LZ8 : Below w4.heap.size w4 w8 := LZ.trans (hb8.mono LZ.size)
          clear hb8 CT LZ
          go_upto_region 18 with (fail)
          refine Rd.name_world ?_
          intro w10 hw
          have bR : blk w10 w8.heap.size = some (.cells #[.int .i64 n, .int .i64 0, .int .i64 0] 23 (0, 0)) := by rw [hw]; exact blk_alloc_at _ _ _ rfl
          have LZ10 : Below w4.heap.size w4 w10 := by
            rw [hw]
            have := LZ8.size
            repeat' (first | (with_reducible exact Below.refl _ _) | (with_reducible refine Rd.below_step ?_ (by assumption)) | (with_reducible refine Rd.below_alloc ?_ _) | (with_reducible refine Rd.below_drewN ?_ _) | (with_reducible refine Below.drew ?_) | (with_reducible refine Below.setCell ?_ ?_ _) | (with_reducible refine Rd.below_setRow ?_ ?_ _) | go_size | (simp only [World.size_alloc]; omega) | omega)
          obtain ⟨rb, hrb⟩ : ∃ p, w8.heap.size = p := ⟨_, rfl⟩
          rw [hrb] at bR ⊢
          have lR := blk_lt bR
          have dR : eqL [(n : Int), 0, 0] [(n : Int), 0, 0] = true := decide_eq_true rfl
          clear hw hrb LZ8
          refine Pred.region_vals (Pred.Of [
              Is (.bool true),
              Is (.bool false),
              Is (.bool false),
              Is (.agg #[.int .i64 (n : Int), .int .i64 0, .int .i64 0]),
              Is (.int .i64 (n : Int)),
              Is (.agg #[.int .i64 (n : Int), .int .i64 0, .int .i64 0]),
              Is (.bool false),
              Is (.bool false)]) (by kernel_rfl) (by kernel_rfl) (by kernel_rfl) (Pred.of_stab ?_) ?_ ?_
          · exact ⟨is_stab _, is_stab _, is_stab _, is_stab _, is_stab _, is_stab _, is_stab _, is_stab _, trivial⟩
          · refine ⟨?_, ?_, ?_, ?_, ?_, ?_, ?_, ?_, trivial⟩
            · intro b X hE hd hn hV
              have r14 : b.tmps[14]?.getD undef = .bool true := (hn 14 (by kernel_rfl)).trans rfl
              exact Pred.yields_run (v := .bool true) (Pred.wanted_none rfl) (by go_simp) ⟨Pred.ext_refl _ _, rfl⟩
            · intro b X hE hd hn hV
              have r113 : b.tmps[113]?.getD undef = .bool true := hV 0 _ 113 rfl rfl (Pred.waits_near (by kernel_rfl) (by kernel_rfl))
              exact Pred.yields_run (v := .bool false) (Pred.wanted_none rfl) (by go_simp) ⟨Pred.ext_refl _ _, rfl⟩
            · intro b X hE hd hn hV
              have r114 : b.tmps[114]?.getD undef = .bool false := hV 1 _ 114 rfl rfl (Pred.waits_near (by kernel_rfl) (by kernel_rfl))
              exact Pred.yields_run (v := .bool false) (Pred.wanted_none rfl) (by go_simp) ⟨Pred.ext_refl _ _, rfl⟩
            · intro b X hE hd hn hV
              have r13 : b.tmps[13]?.getD undef = .pointer (some ⟨rb, 0, none⟩) := (hn 13 (by kernel_rfl)).trans rfl
              have r115 : b.tmps[115]?.getD undef = .bool false := hV 2 _ 115 rfl rfl (Pred.waits_near (by kernel_rfl) (by kernel_rfl))
              have q := (blk_below hE _ lR).trans bR
              have z0 : X.cell? ⟨rb, 0, none⟩ = some (.int .i64 (n : Int)) := by rw [blk_cell q]; rfl
              have z1 : X.cell? ⟨rb, 1, none⟩ = some (.int .i64 0) := by rw [blk_cell q]; rfl
              have z2 : X.cell? ⟨rb, 2, none⟩ = some (.int .i64 0) := by rw [blk_cell q]; rfl
              exact Pred.yields_run (v := .agg #[.int .i64 (n : Int), .int .i64 0, .int .i64 0]) ((Pred.wanted_at (g := 2) (d := 115) (f := false) rfl rfl r115).trans rfl) (by go_simp) ⟨Pred.ext_refl _ _, rfl⟩
            · intro b X hE hd hn hV
              have r5 : b.tmps[5]?.getD undef = .int .i64 (n : Int) := (hn 5 (by kernel_rfl)).trans rfl
              have r115 : b.tmps[115]?.getD undef = .bool false := hV 2 _ 115 rfl rfl (Pred.waits_near (by kernel_rfl) (by kernel_rfl))
              exact Pred.yields_run (v := .int .i64 (n : Int)) ((Pred.wanted_at (g := 2) (d := 115) (f := false) rfl rfl r115).trans rfl) (by go_simp) ⟨Pred.ext_refl _ _, rfl⟩
            · intro b X hE hd hn hV
              have r117 : b.tmps[117]?.getD undef = .int .i64 (n : Int) := hV 4 _ 117 rfl rfl (Pred.waits_near (by kernel_rfl) (by kernel_rfl))
              have r115 : b.tmps[115]?.getD undef = .bool false := hV 2 _ 115 rfl rfl (Pred.waits_near (by kernel_rfl) (by kernel_rfl))
              refine Pred.yields_call (f := 17) (args := #[.int .i64 n]) ((Pred.wanted_at (g := 2) (d := 115) (f := false) rfl rfl r115).trans rfl) (by go_simp) ?_
              exact (CR.out _).mono fun e w2 ⟨he, hb⟩ => ⟨_, he, Pred.ext_below hb hE.size, rfl⟩
            · intro b X hE hd hn hV
              have r116 : b.tmps[116]?.getD undef = .agg #[.int .i64 (n : Int), .int .i64 0, .int .i64 0] := hV 3 _ 116 rfl rfl (Pred.waits_near (by kernel_rfl) (by kernel_rfl))
              have r118 : b.tmps[118]?.getD undef = .agg #[.int .i64 (n : Int), .int .i64 0, .int .i64 0] := hV 5 _ 118 rfl rfl (Pred.waits_near (by kernel_rfl) (by kernel_rfl))
              have r115 : b.tmps[115]?.getD undef = .bool false := hV 2 _ 115 rfl rfl (Pred.waits_near (by kernel_rfl) (by kernel_rfl))
              exact Pred.yields_run (v := .bool false) ((Pred.wanted_at (g := 2) (d := 115) (f := false) rfl rfl r115).trans rfl) (by go_simp) ⟨Pred.ext_refl _ _, rfl⟩
            · intro b X hE hd hn hV
              have r115 : b.tmps[115]?.getD undef = .bool false := hV 2 _ 115 rfl rfl (Pred.waits_near (by kernel_rfl) (by kernel_rfl))
              have r119 : b.tmps[119]?.getD undef = .bool false := hV 6 _ 119 rfl rfl (Pred.waits_near (by kernel_rfl) (by kernel_rfl))
              exact Pred.yields_run (v := .bool false) (Pred.wanted_none rfl) (by go_simp) ⟨Pred.ext_refl _ _, rfl⟩
          intro v w9 hE hv
          have e0 : v 0 = .bool true := hv 0 _ 113 rfl rfl
          have e1 : v 1 = .bool false := hv 1 _ 114 rfl rfl
          have e2 : v 2 = .bool false := hv 2 _ 115 rfl rfl
          have e3 : v 3 = .agg #[.int .i64 (n : Int), .int .i64 0, .int .i64 0] := hv 3 _ 116 rfl rfl
          have e4 : v 4 = .int .i64 (n : Int) := hv 4 _ 117 rfl rfl
          have e5 : v 5 = .agg #[.int .i64 (n : Int), .int .i64 0, .int .i64 0] := hv 5 _ 118 rfl rfl
          have e6 : v 6 = .bool false := hv 6 _ 119 rfl rfl
          have e7 : v 7 = .bool false := hv 7 _ 120 rfl rfl
          simp only [Pred.putsF_cons, Pred.putsF_nil, Nat.zero_add, Nat.reduceAdd, e0, e1, e2, e3, e4, e5, e6, e7, Act.put, List.setIfInBounds_toArray, List.set_cons_zero, List.set_cons_succ]
          clear e0 e1 e2 e3 e4 e5 e6 e7 hv
          have LZ9 : Below w4.heap.size w4 w9 := LZ10.trans (hE.mono LZ10.size)
          clear hE LZ10 bR lR
          go_wp2
          go_roundw
          case rel => exact ⟨t + 1, by omega, congrArg (Value.int .i64) KS.out.symm, by go_num, LZ9⟩
          case measure => simp [intOf]; omega
    · obtain rfl : t = N := by omega
      have bP := (blk_below hbt _ lP4).trans bP4.out
      have l0 : Y0.cell? ⟨pb, 0, none⟩ = some (.int .i64 p0) := by rw [blk_cell bP]; rfl
      have l1 : Y0.cell? ⟨pb, 1, none⟩ = some (.int .i64 p1) := by rw [blk_cell bP]; rfl
      have l2 : Y0.cell? ⟨pb, 2, none⟩ = some (.int .i64 p2) := by rw [blk_cell bP]; rfl
      have dP : eqL [p0, p1, p2] [p0, p1, p2] = true := decide_eq_true rfl
      have hka := HKA.out
      simp only [PgM.g, List.getD_cons_zero] at hka
      clear hbt HKA bP4 HC
      by_cases hp : p0 = 0
      · rw [if_pos hp] at hka
        subst hp
        rw [hka]
        go_wp2_with fail
        refine (CS.out _).mono ?_
        rintro e w6 ⟨rfl, hb6⟩
        have L6 : Below w.heap.size w w6 := LY.trans (hb6.mono LY.size)
        have bP6 := (blk_below hb6 _ (blk_lt bP)).trans bP
        clear hb6 CS l0 l1 l2 LY bP
        go_upto_region 24 with (fail)
        refine Rd.name_world ?_
        intro w7 hw
        have bS : blk w7 w6.heap.size = some (.cells #[.int .i64 0, .int .i64 p1, .int .i64 p2] 23 (0, 0)) := by rw [hw]; exact blk_alloc_at _ _ _ rfl
        have bP7 : blk w7 pb = some (.cells #[.int .i64 0, .int .i64 p1, .int .i64 p2] 23 (0, 0)) := by rw [hw]; exact (blk_alloc_old _ _ _ (blk_lt bP6)).trans bP6
        have L7 : Below w.heap.size w w7 := by
          rw [hw]
          repeat' (first | (with_reducible exact Below.refl _ _) | (with_reducible refine Rd.below_step ?_ (by assumption)) | (with_reducible refine Rd.below_alloc ?_ _) | (with_reducible refine Rd.below_drewN ?_ _) | (with_reducible refine Below.drew ?_) | (with_reducible refine Below.setCell ?_ ?_ _) | (with_reducible refine Rd.below_setRow ?_ ?_ _) | go_size | (simp only [World.size_alloc]; omega) | omega)
        have l0 : w7.cell? ⟨pb, 0, none⟩ = some (.int .i64 0) := by rw [blk_cell bP7]; rfl
        have l1 : w7.cell? ⟨pb, 1, none⟩ = some (.int .i64 p1) := by rw [blk_cell bP7]; rfl
        have l2 : w7.cell? ⟨pb, 2, none⟩ = some (.int .i64 p2) := by rw [blk_cell bP7]; rfl
        have m0 : w7.cell? ⟨w6.heap.size, 0, none⟩ = some (.int .i64 0) := by rw [blk_cell bS]; rfl
        have m1 : w7.cell? ⟨w6.heap.size, 1, none⟩ = some (.int .i64 p1) := by rw [blk_cell bS]; rfl
        have m2 : w7.cell? ⟨w6.heap.size, 2, none⟩ = some (.int .i64 p2) := by rw [blk_cell bS]; rfl
        clear hw L6 bP6
        go_wp2_with fail
        refine (awake_any _).mono ?_
        rintro e w8 ⟨rfl, hb8⟩
        have L8 : Below w.heap.size w w8 := by repeat' (first | (with_reducible exact Below.refl _ _) | (with_reducible refine Rd.below_step ?_ (by assumption)) | (with_reducible refine Rd.below_alloc ?_ _) | (with_reducible refine Rd.below_drewN ?_ _) | (with_reducible refine Below.drew ?_) | (with_reducible refine Below.setCell ?_ ?_ _) | (with_reducible refine Rd.below_setRow ?_ ?_ _) | go_size | (simp only [World.size_alloc]; omega) | omega)
        clear hb8
        go_wp2
        go_ret
        exact ⟨rfl, L8⟩
      · rw [if_neg hp] at hka
        rw [hka]
        have dp0 : (p0 == 0) = false := by simpa using hp
        clear hp
        go_wp2_with fail
        refine (CS.out _).mono ?_
        rintro e w6 ⟨rfl, hb6⟩
        have L6 : Below w.heap.size w w6 := LY.trans (hb6.mono LY.size)
        have bP6 := (blk_below hb6 _ (blk_lt bP)).trans bP
        clear hb6 CS l0 l1 l2 LY bP
        go_upto_region 24 with (fail)
        refine Rd.name_world ?_
        intro w7 hw
        have bS : blk w7 w6.heap.size = some (.cells #[.int .i64 p0, .int .i64 p1, .int .i64 p2] 23 (0, 0)) := by rw [hw]; exact blk_alloc_at _ _ _ rfl
        have bP7 : blk w7 pb = some (.cells #[.int .i64 p0, .int .i64 p1, .int .i64 p2] 23 (0, 0)) := by rw [hw]; exact (blk_alloc_old _ _ _ (blk_lt bP6)).trans bP6
        have L7 : Below w.heap.size w w7 := by
          rw [hw]
          repeat' (first | (with_reducible exact Below.refl _ _) | (with_reducible refine Rd.below_step ?_ (by assumption)) | (with_reducible refine Rd.below_alloc ?_ _) | (with_reducible refine Rd.below_drewN ?_ _) | (with_reducible refine Below.drew ?_) | (with_reducible refine Below.setCell ?_ ?_ _) | (with_reducible refine Rd.below_setRow ?_ ?_ _) | go_size | (simp only [World.size_alloc]; omega) | omega)
        have l0 : w7.cell? ⟨pb, 0, none⟩ = some (.int .i64 p0) := by rw [blk_cell bP7]; rfl
        have l1 : w7.cell? ⟨pb, 1, none⟩ = some (.int .i64 p1) := by rw [blk_cell bP7]; rfl
        have l2 : w7.cell? ⟨pb, 2, none⟩ = some (.int .i64 p2) := by rw [blk_cell bP7]; rfl
        have m0 : w7.cell? ⟨w6.heap.size, 0, none⟩ = some (.int .i64 p0) := by rw [blk_cell bS]; rfl
        have m1 : w7.cell? ⟨w6.heap.size, 1, none⟩ = some (.int .i64 p1) := by rw [blk_cell bS]; rfl
        have m2 : w7.cell? ⟨w6.heap.size, 2, none⟩ = some (.int .i64 p2) := by rw [blk_cell bS]; rfl
        clear hw L6 bP6
        go_wp2_with fail
        refine (awake_any _).mono ?_
        rintro e w8 ⟨rfl, hb8⟩
        have L8 : Below w.heap.size w w8 := by repeat' (first | (with_reducible exact Below.refl _ _) | (with_reducible refine Rd.below_step ?_ (by assumption)) | (with_reducible refine Rd.below_alloc ?_ _) | (with_reducible refine Rd.below_drewN ?_ _) | (with_reducible refine Below.drew ?_) | (with_reducible refine Below.setCell ?_ ?_ _) | (with_reducible refine Rd.below_setRow ?_ ?_ _) | go_size | (simp only [World.size_alloc]; omega) | omega)
        clear hb8
        go_wp2
        go_ret
        exact ⟨rfl, L8⟩
end Go.Proofs.Ytnigilommckmlaa.PgJ
