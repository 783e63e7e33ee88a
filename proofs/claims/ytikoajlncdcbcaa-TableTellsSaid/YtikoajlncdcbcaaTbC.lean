/-
  Tables: New, Look.
-/
import Derived.Test.YtikoajlncdcbcaaTbB
import Derived.Test.YtikoajlncdcbcaaPredS
namespace Go.Proofs.Ytikoajlncdcbcaa.TbC
open Go.RowKit Rd Go.Proofs.Ytikoajlncdcbcaa.Row Mid PgM PgA PgB PgC TbA TbB
open Go.Proofs.Ytikoajlncdcbcaa.Pred (Is is_stab Stab)
set_option linter.unusedVariables false
set_option linter.unusedSimpArgs false
set_option maxRecDepth 10000
def thereP (n : Nat) (bs : List Bool) (u : List Int) : Bool := thereV n bs (PgM.g u 0) (PgM.g u 1) (PgM.g u 2)
/-- the finest from so many levels below the root on -/
def lookL (n : Nat) (bs : List Bool) (L X Y : Int) : Nat → List Int × Bool
  | 0 => ([0, 0, 0], false)
  | r + 1 => if thereP n bs (upV n L X Y ((n : Int) - r)) = true then (upV n L X Y ((n : Int) - r), true) else lookL n bs L X Y r
def lookV (n : Nat) (bs : List Bool) (L X Y : Int) : List Int × Bool := if validB n L X Y = true then lookL n bs L X Y ((n : Int) - L + 1).toNat else ([0, 0, 0], false)
theorem upV_len (d L X Y l : Int) : (upV d L X Y l).length = 3 := by unfold upV; split <;> rfl
attribute [local go_sem ↓] store_pg eq_pg3
attribute [local go_sem] one_int pc3 run_store_pg rowStore_eq blk_alloc_at blk_alloc_old blk_drew blk_drewN blk_set_far blk_set_far' blk_grow setRow_alloc_at setRow_alloc_old setRow_drew setRow_drewN
set_option maxHeartbeats 4000000 in
theorem look_any (t g n : Nat) (bs : List Bool) (L X0 Yp : Int) (w : World) (hTab : Tab w t g n bs) :
    Calls Try.prog 12 #[.pointer (some ⟨t, 0, none⟩), .agg #[.int .i64 L, .int .i64 X0, .int .i64 Yp]] w fun e w' => e = .returned (.tuple #[.agg (cs .i64 (lookV n bs L X0 Yp).1), .bool (lookV n bs L X0 Yp).2]) ∧ Below w.heap.size w w' := by
  have hn := hTab.depth
  obtain ⟨q, eq⟩ : ∃ q, validB n L X0 Yp = q := ⟨_, rfl⟩
  have CH : Hid (∀ X : World, Tab X t g n bs → Calls Try.prog 21 #[.pointer (some ⟨t, 0, none⟩), .agg #[.int .i64 L, .int .i64 X0, .int .i64 Yp]] X fun e w' => e = .returned (.bool q) ∧ Below X.heap.size X w') := fun X h => by
    have := has_any t g n bs L X0 Yp X h
    rw [eq] at this
    exact this
  have EQ := Lib.hid eq
  clear eq
  go_enter Try.func12, Try.ntmps12
  go_upto_region 1 with (fail)
  refine Rd.name_world ?_
  intro w1 hw
  have bP1 : blk w1 w.heap.size = some (.cells #[.int .i64 L, .int .i64 X0, .int .i64 Yp] 24 (0, 0)) := by rw [hw]; exact blk2_0 _ _ _
  have bR1 : blk w1 (w.heap.size + 1) = some (.cells #[.int .i64 0, .int .i64 0, .int .i64 0] 24 (0, 0)) := by rw [hw]; exact blk2_1 _ _ _
  have L1 : Below w.heap.size w w1 := by
    rw [hw]
    repeat' (first | (with_reducible exact Below.refl _ _) | (with_reducible refine Rd.below_step ?_ (by assumption)) | (with_reducible refine Rd.below_alloc ?_ _) | (with_reducible refine Rd.below_drewN ?_ _) | (with_reducible refine Below.drew ?_) | (with_reducible refine Below.setCell ?_ ?_ _) | (with_reducible refine Rd.below_setRow ?_ ?_ _) | go_size | (simp only [World.size_alloc]; omega) | omega)
  have hT1 : Tab w1 t g n bs := hTab.bel L1
  have k0 : w1.cell? ⟨w.heap.size, 0, none⟩ = some (.int .i64 L) := by rw [blk_cell bP1]; rfl
  have k1 : w1.cell? ⟨w.heap.size, 1, none⟩ = some (.int .i64 X0) := by rw [blk_cell bP1]; rfl
  have k2 : w1.cell? ⟨w.heap.size, 2, none⟩ = some (.int .i64 Yp) := by rw [blk_cell bP1]; rfl
  clear hw
  go_wp2_with fail
  refine (CH.out _ hT1).mono ?_
  rintro e w2 ⟨rfl, hb2⟩
  have bP2 := (blk_below hb2 _ (blk_lt bP1)).trans bP1
  have bR2 := (blk_below hb2 _ (blk_lt bR1)).trans bR1
  have hT2 := hT1.bel hb2
  have L2 : Below w.heap.size w w2 := by repeat' (first | (with_reducible exact Below.refl _ _) | (with_reducible refine Rd.below_step ?_ (by assumption)) | (with_reducible refine Rd.below_alloc ?_ _) | (with_reducible refine Rd.below_drewN ?_ _) | (with_reducible refine Below.drew ?_) | (with_reducible refine Below.setCell ?_ ?_ _) | (with_reducible refine Rd.below_setRow ?_ ?_ _) | go_size | (simp only [World.size_alloc]; omega) | omega)
  clear hb2 L1 hT1 bP1 bR1 k0 k1 k2 CH
  cases q
  case false =>
    have EV := Lib.hid (show lookV n bs L X0 Yp = ([0, 0, 0], false) by unfold lookV; rw [EQ.out]; rfl)
    go_wp2
    refine ret_pg2 rfl (w.heap.size + 1) [0, 0, 0] rfl rfl (blk_setRow_of bR2 _) rfl ⟨by rw [EV.out]; rfl, ?_⟩
    refine Rd.below_setRow ?_ ?_ _
    · exact L2
    · omega
  case true =>
    obtain ⟨⟨-, -⟩, ⟨hL0, hL1⟩, -, -⟩ := valid_yes EQ.out
    obtain ⟨m, hm⟩ : ∃ m : Nat, L = m := ⟨L.toNat, by omega⟩
    subst hm
    have EV := Lib.hid (show lookV n bs m X0 Yp = lookL n bs m X0 Yp (n + 1 - m) by unfold lookV; rw [EQ.out, if_pos rfl]; congr 1; omega)
    have k0 : w2.cell? ⟨w.heap.size, 0, none⟩ = some (.int .i64 m) := by rw [blk_cell bP2]; rfl
    go_wp2_with fail
    go_loopw [6] (fun l X => ∃ lv : Nat, m ≤ lv ∧ lv ≤ n + 1 ∧ l = .int .i64 lv ∧ Hid (lookV n bs m X0 Yp = lookL n bs m X0 Yp (n + 1 - lv)) ∧ Below w2.heap.size w2 X) (fun l _ => n + 1 - (intOf l).toNat)
    case atStart => exact ⟨m, Nat.le_refl _, by omega, rfl, EV, Below.refl _ _⟩
    case round =>
      obtain ⟨lv, hlv0, hlv1, rfl, EL, hbt⟩ := hrel
      rename World => Y0
      have hT := hT2.bel hbt
      have bP := (blk_below hbt _ (blk_lt bP2)).trans bP2
      have bR := (blk_below hbt _ (blk_lt bR2)).trans bR2
      have lP := blk_lt bP
      have lT := blk_lt hT.t
      have lR := blk_lt bR
      have LY : Below w.heap.size w Y0 := L2.trans (hbt.mono L2.size)
      have c0 : Y0.cell? ⟨t, 0, none⟩ = some (.int .i64 n) := by rw [blk_cell hT.t]; rfl
      by_cases hlv : lv ≤ n
      · have hlv' : (lv : Int) ≤ n := by omega
        obtain ⟨u0, u1, u2, eU⟩ := len3 (upV_len n m X0 Yp lv)
        have CU : Hid (∀ X : World, Calls Try.prog 23 #[.int .i64 n, .agg #[.int .i64 m, .int .i64 X0, .int .i64 Yp], .int .i64 lv] X fun e w' => e = .returned (.tuple #[.agg #[.int .i64 u0, .int .i64 u1, .int .i64 u2], .bool true]) ∧ Below X.heap.size X w') := fun X => by
          have := up_any n m X0 Yp lv X
          rw [eU, show upB (n : Int) m X0 Yp lv = true by unfold upB; rw [EQ.out, Bool.true_and]; exact decide_eq_true ⟨by omega, hlv'⟩] at this
          exact this
        have CT := Lib.hid (fun X h => there_any t g n bs u0 u1 u2 X h)
        obtain ⟨q, eq⟩ : ∃ q, thereV n bs u0 u1 u2 = q := ⟨_, rfl⟩
        rw [eq] at CT
        have ES : Hid (lookL n bs m X0 Yp (n + 1 - lv) = if q = true then ([u0, u1, u2], true) else lookL n bs m X0 Yp (n + 1 - (lv + 1))) := by
          rw [show n + 1 - lv = (n - lv) + 1 by omega, show n + 1 - (lv + 1) = n - lv by omega]
          have e3 : (n : Int) - ((n - lv : Nat) : Int) = (lv : Int) := by omega
          show (if thereP n bs (upV n m X0 Yp ((n : Int) - ((n - lv : Nat) : Int))) = true then _ else _) = _
          rw [e3, eU]
          show (if thereV n bs u0 u1 u2 = true then _ else _) = _
          rw [eq]
        have ELV := Lib.hid (EL.out.trans ES.out)
        clear eq eU ES EL EV
        go_wp2_with fail
        refine PredS.region_vals (W := Y0) [⟨10, 11, 24, cs .i64 [0, 0, 0], #[.int .i64 u0, .int .i64 u1, .int .i64 u2]⟩] (PredS.Of [
            Is (.pointer (some ⟨t, 0, none⟩)),
            Is (.pointer (some ⟨t, 0, none⟩)),
            Is (.pointer (some ⟨t, 0, none⟩)),
            Is (.int .i64 (n : Int)),
            Is (.agg #[.int .i64 (m : Int), .int .i64 X0, .int .i64 Yp]),
            Is (.int .i64 (lv : Int)),
            Is (.tuple #[.agg #[.int .i64 u0, .int .i64 u1, .int .i64 u2], .bool true]),
            Is (.tuple #[.agg #[.int .i64 u0, .int .i64 u1, .int .i64 u2], .bool true]),
            Is (.agg #[.int .i64 u0, .int .i64 u1, .int .i64 u2]),
            Is (.bool true),
            Is undef,
            Is undef,
            Is (.bool true)]) (by kernel_rfl) (by kernel_rfl) (by kernel_rfl) (by kernel_rfl) (PredS.of_stab ?_) ?_ ?_ ?_
        · exact ⟨PredS.is_stab _, PredS.is_stab _, PredS.is_stab _, PredS.is_stab _, PredS.is_stab _, PredS.is_stab _, PredS.is_stab _, PredS.is_stab _, PredS.is_stab _, PredS.is_stab _, PredS.is_stab _, PredS.is_stab _, PredS.is_stab _, trivial⟩
        · refine ⟨.inr ?_, .inr ?_, .inr ?_, .inr ?_, .inr ?_, .inr ?_, .inr ?_, .inr ?_, .inr ?_, .inr ?_, .inl rfl, .inl rfl, .inr ?_, trivial⟩
          · intro b X hE hd hn hV
            have r0 : b.tmps[0]?.getD undef = .pointer (some ⟨t, 0, none⟩) := (hn 0 (by kernel_rfl)).trans rfl
            exact Pred.yields_run (v := .pointer (some ⟨t, 0, none⟩)) (Pred.wanted_none rfl) (by go_simp) ⟨PredS.ext_refl _ _ _, rfl⟩
          · intro b X hE hd hn hV
            have r25 : b.tmps[25]?.getD undef = .pointer (some ⟨t, 0, none⟩) := hV 0 _ 25 rfl rfl rfl (Pred.waits_near (by kernel_rfl) (by kernel_rfl))
            exact Pred.yields_run (v := .pointer (some ⟨t, 0, none⟩)) (Pred.wanted_none rfl) (by go_simp) ⟨PredS.ext_refl _ _ _, rfl⟩
          · intro b X hE hd hn hV
            have r26 : b.tmps[26]?.getD undef = .pointer (some ⟨t, 0, none⟩) := hV 1 _ 26 rfl rfl rfl (Pred.waits_near (by kernel_rfl) (by kernel_rfl))
            exact Pred.yields_run (v := .pointer (some ⟨t, 0, none⟩)) (Pred.wanted_none rfl) (by go_simp) ⟨PredS.ext_refl _ _ _, rfl⟩
          · intro b X hE hd hn hV
            have r27 : b.tmps[27]?.getD undef = .pointer (some ⟨t, 0, none⟩) := hV 2 _ 27 rfl rfl rfl (Pred.waits_near (by kernel_rfl) (by kernel_rfl))
            have q := (blk_below hE _ lT).trans hT.t
            have z : X.cell? ⟨t, 0, none⟩ = some (.int .i64 n) := by rw [blk_cell q]; rfl
            exact Pred.yields_run (v := .int .i64 (n : Int)) (Pred.wanted_none rfl) (by go_simp) ⟨PredS.ext_refl _ _ _, rfl⟩
          · intro b X hE hd hn hV
            have r3 : b.tmps[3]?.getD undef = .pointer (some ⟨w.heap.size, 0, none⟩) := (hn 3 (by kernel_rfl)).trans rfl
            have q := (blk_below hE _ lP).trans bP
            have z0 : X.cell? ⟨w.heap.size, 0, none⟩ = some (.int .i64 (m : Int)) := by rw [blk_cell q]; rfl
            have z1 : X.cell? ⟨w.heap.size, 1, none⟩ = some (.int .i64 X0) := by rw [blk_cell q]; rfl
            have z2 : X.cell? ⟨w.heap.size, 2, none⟩ = some (.int .i64 Yp) := by rw [blk_cell q]; rfl
            exact Pred.yields_run (v := .agg #[.int .i64 (m : Int), .int .i64 X0, .int .i64 Yp]) (Pred.wanted_none rfl) (by go_simp) ⟨PredS.ext_refl _ _ _, rfl⟩
          · intro b X hE hd hn hV
            have r6 : b.tmps[6]?.getD undef = .int .i64 (lv : Int) := (hn 6 (by kernel_rfl)).trans rfl
            exact Pred.yields_run (v := .int .i64 (lv : Int)) (Pred.wanted_none rfl) (by go_simp) ⟨PredS.ext_refl _ _ _, rfl⟩
          · intro b X hE hd hn hV
            have r28 : b.tmps[28]?.getD undef = .int .i64 (n : Int) := hV 3 _ 28 rfl rfl rfl (Pred.waits_near (by kernel_rfl) (by kernel_rfl))
            have r29 : b.tmps[29]?.getD undef = .agg #[.int .i64 (m : Int), .int .i64 X0, .int .i64 Yp] := hV 4 _ 29 rfl rfl rfl (Pred.waits_near (by kernel_rfl) (by kernel_rfl))
            have r30 : b.tmps[30]?.getD undef = .int .i64 (lv : Int) := hV 5 _ 30 rfl rfl rfl (Pred.waits_near (by kernel_rfl) (by kernel_rfl))
            refine Pred.yields_call (f := 23) (args := #[.int .i64 n, .agg #[.int .i64 (m : Int), .int .i64 X0, .int .i64 Yp], .int .i64 (lv : Int)]) (Pred.wanted_none rfl) (by go_simp) ?_
            exact (CU.out _).mono fun e w2 ⟨he, hb⟩ => ⟨_, he, PredS.ext_below hb hE.size, rfl⟩
          · intro b X hE hd hn hV
            have r31 : b.tmps[31]?.getD undef = .tuple #[.agg #[.int .i64 u0, .int .i64 u1, .int .i64 u2], .bool true] := hV 6 _ 31 rfl rfl rfl (Pred.waits_near (by kernel_rfl) (by kernel_rfl))
            exact Pred.yields_run (v := .tuple #[.agg #[.int .i64 u0, .int .i64 u1, .int .i64 u2], .bool true]) (Pred.wanted_none rfl) (by go_simp) ⟨PredS.ext_refl _ _ _, rfl⟩
          · intro b X hE hd hn hV
            have r24 : b.tmps[24]?.getD undef = .tuple #[.agg #[.int .i64 u0, .int .i64 u1, .int .i64 u2], .bool true] := hV 7 _ 24 rfl rfl rfl (Pred.waits_near (by kernel_rfl) (by kernel_rfl))
            exact Pred.yields_run (v := .agg #[.int .i64 u0, .int .i64 u1, .int .i64 u2]) (Pred.wanted_none rfl) (by go_simp) ⟨PredS.ext_refl _ _ _, rfl⟩
          · intro b X hE hd hn hV
            have r24 : b.tmps[24]?.getD undef = .tuple #[.agg #[.int .i64 u0, .int .i64 u1, .int .i64 u2], .bool true] := hV 7 _ 24 rfl rfl rfl (Pred.waits_near (by kernel_rfl) (by kernel_rfl))
            exact Pred.yields_run (v := .bool true) (Pred.wanted_none rfl) (by go_simp) ⟨PredS.ext_refl _ _ _, rfl⟩
          · intro b X hE hd hn hV
            have r33 : b.tmps[33]?.getD undef = .bool true := hV 9 _ 33 rfl rfl rfl (Pred.waits_near (by kernel_rfl) (by kernel_rfl))
            exact Pred.yields_run (v := .bool true) (Pred.wanted_none rfl) (by go_simp) ⟨PredS.ext_refl _ _ _, rfl⟩
        · refine ⟨?_, trivial⟩
          · refine ⟨_, 7, _, rfl, rfl, by simp, rfl, fun ρ w => by first | (go_simp; done) | (go_simp; rfl), rfl, rfl, Pred.waits_near (by kernel_rfl) (by kernel_rfl), fun b X g hE hn hV hp hg hb => ?_⟩
            have r32 : b.tmps[32]?.getD undef = .agg #[.int .i64 u0, .int .i64 u1, .int .i64 u2] := hV 8 _ 32 rfl rfl rfl (Pred.waits_near (by kernel_rfl) (by kernel_rfl))
            simp only at hb
            exact PredS.yields_skip (Pred.wanted_none rfl) (by go_simp) rfl
        intro v w5 hE hv hL
        have e0 : v 0 = .pointer (some ⟨t, 0, none⟩) := hv 0 _ 25 rfl rfl rfl
        have e1 : v 1 = .pointer (some ⟨t, 0, none⟩) := hv 1 _ 26 rfl rfl rfl
        have e2 : v 2 = .pointer (some ⟨t, 0, none⟩) := hv 2 _ 27 rfl rfl rfl
        have e3 : v 3 = .int .i64 (n : Int) := hv 3 _ 28 rfl rfl rfl
        have e4 : v 4 = .agg #[.int .i64 (m : Int), .int .i64 X0, .int .i64 Yp] := hv 4 _ 29 rfl rfl rfl
        have e5 : v 5 = .int .i64 (lv : Int) := hv 5 _ 30 rfl rfl rfl
        have e6 : v 6 = .tuple #[.agg #[.int .i64 u0, .int .i64 u1, .int .i64 u2], .bool true] := hv 6 _ 31 rfl rfl rfl
        have e7 : v 7 = .tuple #[.agg #[.int .i64 u0, .int .i64 u1, .int .i64 u2], .bool true] := hv 7 _ 24 rfl rfl rfl
        have e8 : v 8 = .agg #[.int .i64 u0, .int .i64 u1, .int .i64 u2] := hv 8 _ 32 rfl rfl rfl
        have e9 : v 9 = .bool true := hv 9 _ 33 rfl rfl rfl
        have e12 : v 12 = .bool true := hv 12 _ 8 rfl rfl rfl
        obtain ⟨⟨g10, e10, o10, q10, n10⟩, -⟩ := hL
        replace q10 : blk w5 g10 = some (.cells #[.int .i64 u0, .int .i64 u1, .int .i64 u2] 24 (0, 0)) := q10
        clear n10
        simp only [Pred.putsF_cons, Pred.putsF_nil, Nat.zero_add, Nat.reduceAdd, e0, e1, e2, e3, e4, e5, e6, e7, e8, e9, e10, e12, Act.put, List.setIfInBounds_toArray, List.set_cons_zero, List.set_cons_succ]
        clear e0 e1 e2 e3 e4 e5 e6 e7 e8 e9 e10 e12 hv
        have og : Y0.heap.size ≤ g10 := o10
        replace hT := hT.bel hE
        replace bR := (blk_below hE _ lR).trans bR
        have L5 : Below w.heap.size w w5 := LY.trans (hE.mono LY.size)
        have LZ : Below w2.heap.size w2 w5 := hbt.trans (hE.mono hbt.size)
        have m0 : w5.cell? ⟨g10, 0, none⟩ = some (.int .i64 u0) := by rw [blk_cell q10]; rfl
        have m1 : w5.cell? ⟨g10, 1, none⟩ = some (.int .i64 u1) := by rw [blk_cell q10]; rfl
        have m2 : w5.cell? ⟨g10, 2, none⟩ = some (.int .i64 u2) := by rw [blk_cell q10]; rfl
        have lQ := blk_lt q10
        clear hE hbt LY CU lP lT lR bP c0
        cases q
        case false =>
          replace ELV : Hid (lookV n bs m X0 Yp = lookL n bs m X0 Yp (n + 1 - (lv + 1))) := ELV.out
          go_wp2_with fail
          refine (CT.out _ hT).mono ?_
          rintro e w6 ⟨rfl, hb6⟩
          have LZ6 : Below w2.heap.size w2 w6 := LZ.trans (hb6.mono LZ.size)
          clear hb6 m0 m1 m2 q10 CT LZ
          go_wp2
          go_roundw
          case rel => exact ⟨lv + 1, by omega, by omega, by go_num, ELV, LZ6⟩
          case measure => simp [intOf]; omega
        case true =>
          replace ELV : Hid (lookV n bs m X0 Yp = ([u0, u1, u2], true)) := ELV.out
          go_wp2_with fail
          refine (CT.out _ hT).mono ?_
          rintro e w6 ⟨rfl, hb6⟩
          have bR6 := (blk_below hb6 _ (blk_lt bR)).trans bR
          have bU6 := (blk_below hb6 _ lQ).trans q10
          have L6 : Below w.heap.size w w6 := by repeat' (first | (with_reducible exact Below.refl _ _) | (with_reducible refine Rd.below_step ?_ (by assumption)) | (with_reducible refine Rd.below_alloc ?_ _) | (with_reducible refine Rd.below_drewN ?_ _) | (with_reducible refine Below.drew ?_) | (with_reducible refine Below.setCell ?_ ?_ _) | (with_reducible refine Rd.below_setRow ?_ ?_ _) | go_size | (simp only [World.size_alloc]; omega) | omega)
          clear m0 m1 m2 hb6
          have m0 : w6.cell? ⟨g10, 0, none⟩ = some (.int .i64 u0) := by rw [blk_cell bU6]; rfl
          have m1 : w6.cell? ⟨g10, 1, none⟩ = some (.int .i64 u1) := by rw [blk_cell bU6]; rfl
          have m2 : w6.cell? ⟨g10, 2, none⟩ = some (.int .i64 u2) := by rw [blk_cell bU6]; rfl
          clear q10 CT bR
          go_wp2
          refine ret_pg2 rfl (w.heap.size + 1) [u0, u1, u2] rfl rfl (blk_setRow_of bR6 _) rfl ⟨by rw [ELV.out]; rfl, ?_⟩
          refine Rd.below_setRow ?_ ?_ _
          · exact L6
          · omega
      · obtain rfl : lv = n + 1 := by omega
        have hlv' : ¬ ((n + 1 : Nat) : Int) ≤ (n : Int) := by omega
        have EV2 := Lib.hid (EL.out.trans (show lookL n bs m X0 Yp (n + 1 - (n + 1)) = ([0, 0, 0], false) by rw [Nat.sub_self]; rfl))
        go_wp2
        refine ret_pg2 rfl (w.heap.size + 1) [0, 0, 0] rfl rfl (blk_setRow_of bR _) rfl ⟨by rw [EV2.out]; rfl, ?_⟩
        refine Rd.below_setRow ?_ ?_ _
        · exact LY
        · omega
end Go.Proofs.Ytikoajlncdcbcaa.TbC
