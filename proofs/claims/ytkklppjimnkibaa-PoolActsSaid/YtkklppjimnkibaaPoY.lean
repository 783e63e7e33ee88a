/-
  PoolActs.
-/
import Derived.Test.YtkklppjimnkibaaPoX
import Derived.Test.YtkklppjimnkibaaPredT
import Derived.BigGuard
import Derived.Deep.CutRange
import Derived.Deep.CutBlock
namespace Go.Proofs.Ytkklppjimnkibaa.PoY
open Go.RowKit Go.Shelf Rd Go.Proofs.Ytkklppjimnkibaa.Row Mid LrM PgM PgA PgB PgC PgN PoM PoA PoB PoH PoI PoL PoS PoT PoU PoQ PoV PoX
open Go.Proofs.Ytkklppjimnkibaa.PoK (allR all_pl cutV cut_all cut_take)
open Go.Proofs.Ytkklppjimnkibaa.Alk (round_any)
open Go.Proofs.Ytkklppjimnkibaa.PoD (us us_len By dataL data_len data_B data_any)
open Go.Proofs.Ytkklppjimnkibaa.PoE (BIn yields_skip below_zero one_slice)
open Go.Proofs.Ytkklppjimnkibaa.Num (ret_int ret_bool)
open Go.Proofs.Ytkklppjimnkibaa.MpE (owns_mono)
open Go.Proofs.Ytkklppjimnkibaa.Rds (Rds rds_stab reads_ext cell_ext)
open Go.Proofs.Ytkklppjimnkibaa.Pred (Is is_stab)
open It (get_lt)
open Ints (i64s In64)
set_option linter.unusedVariables false
set_option linter.unusedSimpArgs false
set_option maxRecDepth 10000
attribute [local go_sem ↓] load_pg store_pg eq_pg3
attribute [local go_sem] one_int pc3 run_load_pg run_store_pg midLoad_eq rowLoad_eq rowStore_eq blk_alloc_at blk_alloc_old blk_drew blk_drewN blk_set_far blk_set_far' blk_grow setRow_alloc_at setRow_alloc_old setRow_drew setRow_drewN
theorem acts_small (n d : Int) (ra a : Option Addr) (rl rc len cap : Nat) (w : World) (h : 60 < len ∨ 300 < rl) (hl : len ≤ 9223372036854775807) (hr : rl ≤ 9223372036854775807) :
    Calls Try.prog 3 #[.int .i64 n, .int .i64 d, .slice ra rl rc, .slice a len cap] w fun e w' => e = .returned (.bool true) ∧ Below w.heap.size w w' := by
  have CA := Lib.hid (fun X => awake_any X)
  by_cases h1 : 60 < len
  · have d1 : decide ((60 : Int) < (len : Int)) = true := decide_eq_true (by omega)
    clear h
    go_enter Try.func3, Try.ntmps3
    go_wp2_with fail
    refine (CA.out _).mono ?_
    rintro e w1 ⟨rfl, hb⟩
    go_wp2
    go_ret
    exact ⟨rfl, hb⟩
  · have d1 : decide ((60 : Int) < (len : Int)) = false := decide_eq_false (by omega)
    have d2 : decide ((300 : Int) < (rl : Int)) = true := decide_eq_true (by omega)
    clear h
    go_enter Try.func3, Try.ntmps3
    go_wp2_with fail
    refine (CA.out _).mono ?_
    rintro e w1 ⟨rfl, hb⟩
    go_wp2
    go_ret
    exact ⟨rfl, hb⟩
theorem acts_short (n d : Int) (ra a : Option Addr) (rl rc len cap : Nat) (w : World) (h1 : len ≤ 60) (h2 : rl ≤ 5) :
    Calls Try.prog 3 #[.int .i64 n, .int .i64 d, .slice ra rl rc, .slice a len cap] w fun e w' => e = .returned (.bool true) ∧ Below w.heap.size w w' := by
  have CA := Lib.hid (fun X => awake_any X)
  have CN := Lib.hid (fun X => new_bad n d ra rl rc X (by omega) (.inr (.inr (by omega))))
  have CM := Lib.hid (fun X => rnew_bad n d ra rl rc X (by omega) (.inr (.inr (by omega))))
  have d1 : decide ((60 : Int) < (len : Int)) = false := decide_eq_false (by omega)
  have d2 : decide ((300 : Int) < (rl : Int)) = false := decide_eq_false (by omega)
  have d3 : decide ((5 : Int) < (rl : Int)) = false := decide_eq_false (by omega)
  go_enter Try.func3, Try.ntmps3
  go_wp2_with fail
  refine (CN.out _).mono ?_
  rintro e w1 ⟨rfl, hb1⟩
  go_wp2_with fail
  refine (CM.out _).mono ?_
  rintro e w2 ⟨rfl, hb2⟩
  have L2 := Rd.below_step hb1 hb2
  clear hb1 hb2
  go_wp2_with fail
  refine (CA.out _).mono ?_
  rintro e w3 ⟨rfl, hb3⟩
  have L3 := Rd.below_step L2 hb3
  clear hb3
  go_wp2
  go_ret
  exact ⟨rfl, L3⟩
theorem acts_bad (n d : Int) (rb ro : Nat) (a : Option Addr) (rl rc len cap : Nat) (r0 : Int) (w : World) (h1 : len ≤ 60) (h2 : 5 < rl) (h3 : rl ≤ 300) (hz : 0 ≤ r0 ∧ r0 ≤ 255) (hc : w.cell? ⟨rb, ro, none⟩ = some (.int .u8 r0)) (hb : ¬ (1 ≤ n ∧ n ≤ 128) ∨ ¬ (0 ≤ d ∧ d ≤ 3)) :
    Calls Try.prog 3 #[.int .i64 n, .int .i64 d, .slice (some ⟨rb, ro, none⟩) rl rc, .slice a len cap] w fun e w' => e = .returned (.bool true) ∧ Below w.heap.size w w' := by
  have CA := Lib.hid (fun X => awake_any X)
  have CN := Lib.hid (fun (ra : Option Addr) (c : Nat) X => new_bad n d ra 144 c X (by omega) (hb.imp id fun h => .inl (depth_no h)))
  have CM := Lib.hid (fun (ra : Option Addr) (c : Nat) X => rnew_bad n d ra 144 c X (by omega) (hb.imp id fun h => .inl h))
  obtain ⟨k, rfl⟩ : ∃ k : Nat, r0 = (k : Int) := ⟨r0.toNat, by omega⟩
  have hk : k ≤ 100000 := by omega
  have CD := Lib.hid (fun X => data_any k hk X)
  have d1 : decide ((60 : Int) < (len : Int)) = false := decide_eq_false (by omega)
  have d2 : decide ((300 : Int) < (rl : Int)) = false := decide_eq_false (by omega)
  have d3 : decide ((5 : Int) < (rl : Int)) = true := decide_eq_true (by omega)
  have h0 : (0 : Int) < (rl : Int) := by omega
  have hw := IntWalk.i64_in (k : Int) (by omega)
  clear hb
  go_enter Try.func3, Try.ntmps3
  go_wp2_with fail
  refine (CD.out _).mono ?_
  rintro e w0 ⟨⟨v, rfl, hv⟩, hb0⟩
  obtain ⟨a0, c0, rfl, -⟩ := Rd.owns_val hv
  clear hv
  go_wp2_with fail
  refine (CN.out _ _ _).mono ?_
  rintro e w1 ⟨rfl, hb1⟩
  have L1 := Rd.below_step hb0 hb1
  go_wp2_with fail
  refine (CM.out _ _ _).mono ?_
  rintro e w2 ⟨rfl, hb2⟩
  have L2 := Rd.below_step L1 hb2
  clear hb1 hb2 hb0
  go_wp2_with fail
  refine (CA.out _).mono ?_
  rintro e w3 ⟨rfl, hb3⟩
  have L3 := Rd.below_step L2 hb3
  clear hb3
  go_wp2
  go_ret
  exact ⟨rfl, L3⟩
set_option maxHeartbeats 8000000 in
theorem acts_gen (n d : Nat) (rb ro : Nat) (a : Option Addr) (rl rc len cap : Nat) (r0 : Int) (zs : List Int) (w : World) (h1 : len ≤ 60) (h2 : 5 < rl) (h3 : rl ≤ 300) (hrz : 0 ≤ r0 ∧ r0 ≤ 255) (hc : w.cell? ⟨rb, ro, none⟩ = some (.int .u8 r0)) (hn : 1 ≤ n ∧ n ≤ 128) (hd : d ≤ 3) (hz : ∀ z ∈ zs, In64 z) (hzl : zs.length = len * 3) (hr : Reads w 3 a len (i64s zs)) :
    Calls Try.prog 3 #[.int .i64 n, .int .i64 d, .slice (some ⟨rb, ro, none⟩) rl rc, .slice a len cap] w fun e w' => e = .returned (.bool true) ∧ Below w.heap.size w w' := by
  have CA := Lib.hid (fun X => awake_any X)
  have CO := Lib.hid (fun (k : Int) hk (X : World) => of_any d hd k hk X)
  obtain ⟨kr, rfl⟩ : ∃ k : Nat, r0 = (k : Int) := ⟨r0.toNat, by omega⟩
  have hk : kr ≤ 100000 := by omega
  obtain ⟨D1, e1⟩ : ∃ D, dataL kr = D := ⟨_, rfl⟩
  have CD := Lib.hid (fun X => data_any kr hk X)
  have B1 := Lib.hid (data_B kr)
  rw [e1] at CD B1
  have HR := Lib.hid hr
  have HZ := Lib.hid hz
  have HZL := Lib.hid hzl
  have d1 : decide ((60 : Int) < (len : Int)) = false := decide_eq_false (by omega)
  have d2 : decide ((300 : Int) < (rl : Int)) = false := decide_eq_false (by omega)
  have d3 : decide ((5 : Int) < (rl : Int)) = true := decide_eq_true (by omega)
  have h0 : (0 : Int) < (rl : Int) := by omega
  have hw := IntWalk.i64_in (kr : Int) (by omega)
  have hn1 := hn.1
  have hn2 := hn.2
  clear hr hz e1 hzl hn
  go_enter Try.func3, Try.ntmps3
  go_wp2_with fail
  refine (CD.out _).mono ?_
  rintro e X0 ⟨⟨v, rfl, hv⟩, hb⟩
  obtain ⟨a0, c0, rfl, hB, -⟩ := bin_own hv
  have L0 := hb
  have HB := Lib.hid hB
  clear hb hv hB d1 d2 d3 hw hc CD
  go_wp2_with fail
  refine (new_ok n d ⟨a0, 0, none⟩ c0 D1 X0 ⟨hn1, hn2⟩ hd HB.out).mono ?_
  rintro e X1 ⟨⟨pb, gw, rfl, hP⟩, hb⟩
  have L1 := L0.trans (hb.mono L0.size)
  have HA1 : Hid (Aw w X1 ⟨X0.heap.size, 0, 0⟩ pb gw n d [(rootL d, D1)]) := Lib.hid ⟨L1, hP.mono (fun k _ e => by have := L0.size; omega), L0.size⟩
  have HB1 := Lib.hid (HB.out.bel hb)
  clear hb hP HB L0
  go_wp2_with fail
  refine (rnew_ok n d ⟨a0, 0, none⟩ c0 D1 X1 ⟨hn1, hn2⟩ hd HB1.out).mono ?_
  rintro e X2 ⟨⟨qb, v, rs, rfl, hR⟩, hb⟩
  have HS2 : Hid (As w X2 ⟨X0.heap.size, 0, 0⟩ pb gw X1.heap.size qb n d [(rootL d, D1)]) := Lib.hid ⟨HA1.out.bel hb, ⟨_, _, hR⟩, fun e he => by rw [List.mem_singleton.1 he]; exact B1.out, L1.size⟩
  obtain ⟨lo, elo⟩ : ∃ l : Lo, (⟨X0.heap.size, 0, 0⟩ : Lo) = l := ⟨_, rfl⟩
  obtain ⟨base, eba⟩ : ∃ l : Nat, X1.heap.size = l := ⟨_, rfl⟩
  rw [elo, eba] at HS2
  clear hb hR HA1 HB1 L1 elo eba h0 B1
  go_wp2_with fail
  go_loopw [12] (fun i X => ∃ (k : Nat) (R : List Ent), k ≤ len ∧ i = .int .i64 k ∧ Hid (As w X lo pb gw base qb n d R)) (fun i _ => len - (intOf i).toNat)
  case atStart => exact ⟨0, _, Nat.zero_le _, rfl, HS2⟩
  case round =>
    clear HS2
    obtain ⟨k, R, hk, rfl, HS⟩ := hrel
    rename World => X
    by_cases hlt : k < len
    · have hlt' : (k : Int) < (len : Int) := by omega
      have hzl := HZL.out
      obtain ⟨ab, ao, rfl, hab, hac⟩ := Ints.cell_of HR.out (k := 3 * k) (by omega) (by omega)
      have cx : w.cell? ⟨ab, ao + k * 3, none⟩ = some (.int .i64 (zs.getD (3 * k) 0)) := by rw [show ao + k * 3 = ao + 3 * k by omega]; exact hac _ (by omega)
      have cy : w.cell? ⟨ab, ao + k * 3 + 1, none⟩ = some (.int .i64 (zs.getD (3 * k + 1) 0)) := by rw [show ao + k * 3 + 1 = ao + (3 * k + 1) by omega]; exact hac _ (by omega)
      have cz : w.cell? ⟨ab, ao + k * 3 + 2, none⟩ = some (.int .i64 (zs.getD (3 * k + 2) 0)) := by rw [show ao + k * 3 + 2 = ao + (3 * k + 2) by omega]; exact hac _ (by omega)
      have hyy := Ints.getD_in HZ.out (3 * k + 1)
      have hzz := Ints.getD_in HZ.out (3 * k + 2)
      clear hac hzl
      generalize zs.getD (3 * k) 0 = K at cx
      generalize zs.getD (3 * k + 1) 0 = y at cy hyy
      generalize zs.getD (3 * k + 2) 0 = z at cz hzz
      have dx := (HS.out.aw.low.cell (p := ⟨ab, ao + k * 3, none⟩) hab).trans cx
      have dy := (HS.out.aw.low.cell (p := ⟨ab, ao + k * 3 + 1, none⟩) hab).trans cy
      have dz := (HS.out.aw.low.cell (p := ⟨ab, ao + k * 3 + 2, none⟩) hab).trans cz
      clear cx cy cz
      have COy := Lib.hid (CO.out y hyy)
      obtain ⟨r5, hr5, er5⟩ : ∃ r : Nat, r < 500 ∧ z % 500 = (r : Int) := ⟨(z % 500).toNat, by omega, by omega⟩
      have CR : Hid (∀ X : World, Calls Try.prog 11 #[.int .i64 z, .int .i64 500] X fun e w' => e = .returned (.int .i64 r5) ∧ X = w') := Lib.hid fun X => (by
        have := round_any z 500 X hzz.1 hzz.2 (by decide) (by decide)
        rwa [er5] at this)
      obtain ⟨D5, e5⟩ : ∃ D, dataL r5 = D := ⟨_, rfl⟩
      have CD5 := Lib.hid (fun X => data_any r5 (by omega) X)
      have B5 := Lib.hid (data_B r5)
      rw [e5] at CD5 B5
      clear e5 er5 hyy
      go_upto_region 15 with (fail)
      refine Rd.name_world ?_
      intro W hw
      have bA : blk W X.heap.size = some (.cells #[.int .i64 K, .int .i64 y, .int .i64 z] 33 (0, 0)) := by rw [hw]; exact blk_alloc_at _ _ _ rfl
      have hbW : Below X.heap.size X W := by
        rw [hw]
        repeat' (first | (with_reducible exact Below.refl _ _) | (with_reducible refine Rd.below_step ?_ (by assumption)) | (with_reducible refine Rd.below_alloc ?_ _) | (with_reducible refine Rd.below_drewN ?_ _) | (with_reducible refine Below.drew ?_) | (with_reducible refine Below.setCell ?_ ?_ _) | (with_reducible refine Rd.below_setRow ?_ ?_ _) | go_size | (simp only [World.size_alloc]; omega) | omega)
      have HS1 := Lib.hid (HS.out.bel hbW)
      clear hw dx dy dz hbW HS
      obtain ⟨ga, ega⟩ : ∃ g, X.heap.size = g := ⟨_, rfl⟩
      rw [ega] at bA ⊢
      have cA1 : W.cell? ⟨ga, 1, none⟩ = some (.int .i64 y) := by rw [blk_cell bA]; rfl
      clear ega
      go_wp2_with fail
      refine (COy.out _).mono ?_
      rintro e W2 ⟨⟨x0, x1, x2, rfl⟩, hb2⟩
      have bA2 := (blk_below hb2 _ (blk_lt bA)).trans bA
      have HS2 := Lib.hid (HS1.out.bel hb2)
      clear hb2 HS1 bA COy cA1
      go_upto_region 16 with (fail)
      refine Rd.name_world ?_
      intro W3 hw
      have bG3 : blk W3 W2.heap.size = some (.cells #[.int .i64 x0, .int .i64 x1, .int .i64 x2] 35 (0, 0)) := by rw [hw]; exact blk_alloc_at _ _ _ rfl
      have hbW : Below W2.heap.size W2 W3 := by
        rw [hw]
        repeat' (first | (with_reducible exact Below.refl _ _) | (with_reducible refine Rd.below_step ?_ (by assumption)) | (with_reducible refine Rd.below_alloc ?_ _) | (with_reducible refine Rd.below_drewN ?_ _) | (with_reducible refine Below.drew ?_) | (with_reducible refine Below.setCell ?_ ?_ _) | (with_reducible refine Rd.below_setRow ?_ ?_ _) | go_size | (simp only [World.size_alloc]; omega) | omega)
      have bA3 := (blk_below hbW _ (blk_lt bA2)).trans bA2
      have HS3 := Lib.hid (HS2.out.bel hbW)
      clear hw hbW HS2 bA2
      obtain ⟨gb, egb⟩ : ∃ g, W2.heap.size = g := ⟨_, rfl⟩
      rw [egb] at bG3 ⊢
      clear egb
      have cA0 : W3.cell? ⟨ga, 0, none⟩ = some (.int .i64 K) := by rw [blk_cell bA3]; rfl
      have cA2 : W3.cell? ⟨ga, 2, none⟩ = some (.int .i64 z) := by rw [blk_cell bA3]; rfl
      go_upto_block 2 with (fail)
      go_cut [15, 16, 17, 18, 19] from 70 to 184 (fun _ _ _ _ _ Y => Hid (∃ R', As w Y lo pb gw base qb n d R') ∧ blk Y gb = some (.cells #[.int .i64 x0, .int .i64 x1, .int .i64 x2] 35 (0, 0)))
      case first =>
        by_cases hK : K = 1
        · subst hK
          go_wp2_with fail
          refine (CR.out _).mono ?_
          rintro e _ ⟨rfl, rfl⟩
          go_wp2_with fail
          refine (CD5.out _).mono ?_
          rintro e W4 ⟨⟨v5, rfl, hv5⟩, hb4⟩
          obtain ⟨a5, c5, rfl, hB5, -⟩ := bin_own hv5
          obtain ⟨a6, c6, e6, hc6, -⟩ := Rd.owns_val hv5
          injection e6 with e6 e7 e8
          subst e8
          have HB5 := Lib.hid hB5
          have bG4 := (blk_below hb4 _ (blk_lt bG3)).trans bG3
          have cA4 : W4.cell? ⟨ga, 2, none⟩ = some (.int .i64 z) := by rw [blk_cell ((blk_below hb4 _ (blk_lt bA3)).trans bA3)]; rfl
          have HS4 := Lib.hid (HS3.out.bel hb4)
          clear hv5 hb4 e6 e7 hB5 bG3 bA3 cA0 cA2 HS3 CR CD5
          go_upto_if 95 with (fail)
          go_cut [15] from 70 to 184 (fun v5 Y => ∃ (ad : Option Addr) (m c : Nat), v5 = .slice ad m c ∧ m ≤ 144 ∧ Hid (BV W4 m ad D5) ∧ Y = W4)
          case first =>
            by_cases hm : z.tmod 19 = 18
            · go_wp2_with fail
              go_meet
              exact ⟨_, 20, _, rfl, by omega, Lib.hid (fun e => absurd e (by decide)), rfl⟩
            · go_wp2_with fail
              go_meet
              exact ⟨_, 144, _, rfl, by omega, Lib.hid (fun _ => ⟨_, rfl, HB5.out⟩), rfl⟩
          case rest =>
            obtain ⟨ad, m, c, rfl, hm, HBV, hX⟩ := hcut
            subst hX
            obtain ⟨q, hq⟩ : ∃ q, okB d x0 x1 x2 m = q := ⟨_, rfl⟩
            obtain ⟨v, rs, hr⟩ := HS4.out.rp
            have HQ := Lib.hid hq
            have HR4 := Lib.hid hr
            clear hq hr
            go_wp2_with fail
            refine (cput x0 x1 x2 ad m c D5 q _ HQ.out HS4.out.aw HBV.out (by omega)).mono ?_
            rintro e W5 ⟨gv, rfl, hG, hA, hf⟩
            have HR5 := Lib.hid (HR4.out.pf HS4.out.aw.p hf)
            have HBV5 : Hid (BV W5 m ad D5) := Lib.hid fun e => by
              obtain ⟨a, ea, hB⟩ := HBV.out e
              exact ⟨a, ea, bin_pf hB HS4.out.aw.p hf⟩
            have bG5 := pg_pf HS4.out.aw.p hf bG4
            have HG5 := Lib.hid hG
            have HA5 := Lib.hid hA
            have HSM := Lib.hid HS4.out.small
            have HLO := Lib.hid HS4.out.lo
            have HBY := Lib.hid (by_putQ (q := q) (n := n) (g := [x0, x1, x2]) HS4.out.by_ B5.out)
            clear hG hA hf HS4 bG4 HBV HR4
            go_wp2_with fail
            refine (rput x0 x1 x2 ad m c D5 q W5 HQ.out HR5.out HSM.out.1 HSM.out.2.2 HBV5.out).mono ?_
            rintro e W6 ⟨gv', v', rs', rfl, hG', hR', hg⟩
            have HG6 := PoX.GoneAt.gq HG5.out HR5.out hg
            have bG6 := pg_gq HR5.out hg bG5
            have HS6 : Hid (As w W6 lo pb gw base qb n d (putQ q n R [x0, x1, x2] D5)) := Lib.hid ⟨PoX.Aw.gq HA5.out HR5.out HLO.out hg, ⟨_, _, hR'⟩, HBY.out, HLO.out⟩
            have hgl : (goneQ q n R [x0, x1, x2]).length ≤ 1000000 := by
              rcases HG6 with ⟨e, -⟩ | ⟨x, g9, e, -⟩ <;> rw [e] <;> simp
            obtain ⟨ad1, cc1, rfl, hp1⟩ := PoL.GoneAt.at HG6
            obtain ⟨ad2, cc2, rfl, hp2⟩ := PoL.GoneAt.at hG'
            have cpg := pages_any _ _ ad1 ad2 cc1 cc2 W6 hp1 hp2 hgl hgl
            rw [decide_eq_true rfl] at cpg
            have CPG := Lib.hid cpg
            clear cpg HG6 hG' hp1 hp2 hgl hg hR' HG5 HA5 HR5 HBV5 HQ HLO HSM HBY bG5
            obtain ⟨cd, ecd⟩ : ∃ x, codeQ q n R [x0, x1, x2] = x := ⟨_, rfl⟩
            rw [ecd]
            clear ecd
            go_wp2_with fail
            refine CPG.out.mono ?_
            rintro e W7 ⟨rfl, hb7⟩
            have bG7 := (blk_below hb7 _ (blk_lt bG6)).trans bG6
            have HS7 := Lib.hid (HS6.out.bel hb7)
            clear hb7 HS6 bG6 CPG
            go_wp2_with fail
            go_meet
            exact ⟨Lib.hid ⟨_, HS7.out⟩, bG7⟩
        · by_cases hK2 : K = 2
          · subst hK2
            clear CR CD5 bA3 cA2
            go_upto_region 26 with (fail)
            clear cA0
            refine PredT.region_of (W := W3) (0) (Nat.zero_le _) [2, 5] [
                fun y9 => Below W3.heap.size W3 y9,
                fun y9 => Aw w y9 lo pb gw n d (touchR R [x0, x1, x2]) ∧ PF lo gw W3 y9,
                fun y9 => As w y9 lo pb gw base qb n d (touchR R [x0, x1, x2]) ∧ blk y9 gb = some (.cells #[.int .i64 x0, .int .i64 x1, .int .i64 x2] 35 (0, 0))] [
                PredT.At 0 (.pointer (some ⟨pb, 0, none⟩)),
                PredT.At 0 (.agg #[.int .i64 x0, .int .i64 x1, .int .i64 x2]),
                PredT.At 1 (.bool (hasR R [x0, x1, x2])),
                PredT.At 0 (.pointer (some ⟨qb, 0, none⟩)),
                PredT.At 0 (.agg #[.int .i64 x0, .int .i64 x1, .int .i64 x2]),
                PredT.At 2 (.bool (hasR R [x0, x1, x2])),
                PredT.At 2 (.bool false)] (by kernel_rfl) (by kernel_rfl) (by kernel_rfl) (by decide) (by decide) ?_ ?_ ?_ ?_ ?_ ?_
            · exact ⟨PredT.at_stab _ _ _ _, PredT.at_stab _ _ _ _, PredT.at_stab _ _ _ _, PredT.at_stab _ _ _ _, PredT.at_stab _ _ _ _, PredT.at_stab _ _ _ _, PredT.at_stab _ _ _ _, trivial⟩
            · intro q hq
              rcases List.mem_cons.1 hq with rfl | hq
              · exact fun y y' h hb => h.trans (hb.mono h.size)
              rcases List.mem_cons.1 hq with rfl | hq
              · exact fun y y' h hb => ⟨h.1.bel hb, h.2.trans (PF.of_below hb (Pl.low h.1.p))⟩
              rcases List.mem_cons.1 hq with rfl | hq
              · exact fun y y' h hb => ⟨h.1.bel hb, (blk_below hb _ (blk_lt h.2)).trans h.2⟩
              cases hq
            · exact Below.refl _ _
            · refine ⟨.inr ?_, .inr ?_, .inl rfl, .inr ?_, .inr ?_, .inl rfl, .inr ?_, trivial⟩
              · intro b9 X ph hE hd hn hS hV hI hF
                have r9 : b9.tmps[9]?.getD undef = .pointer (some ⟨pb, 0, none⟩) := (hn 9 (by kernel_rfl)).trans rfl
                exact Pred.yields_run (v := .pointer (some ⟨pb, 0, none⟩)) (Pred.wanted_none rfl) (by go_simp) ⟨Below.refl _ _, rfl, Nat.zero_le _⟩
              · intro b9 X ph hE hd hn hS hV hI hF
                have r14 : b9.tmps[14]?.getD undef = .pointer (some ⟨gb, 0, none⟩) := (hn 14 (by kernel_rfl)).trans rfl
                have hp0 : ph = 0 := Nat.le_zero.1 (hF 0 2 rfl (Pred.waits_near (by kernel_rfl) (by kernel_rfl)))
                subst hp0
                have hb0 : (fun y9 => Below W3.heap.size W3 y9) X := hS
                have z := (blk_below hb0 _ (blk_lt bG3)).trans bG3
                exact Pred.yields_run (v := .agg #[.int .i64 x0, .int .i64 x1, .int .i64 x2]) (Pred.wanted_none rfl) (by go_simp) ⟨Below.refl _ _, rfl, Nat.zero_le _⟩
              · intro b9 X ph hE hd hn hS hV hI hF
                have r11 : b9.tmps[11]?.getD undef = .pointer (some ⟨qb, 0, none⟩) := (hn 11 (by kernel_rfl)).trans rfl
                exact Pred.yields_run (v := .pointer (some ⟨qb, 0, none⟩)) (Pred.wanted_none rfl) (by go_simp) ⟨Below.refl _ _, rfl, Nat.zero_le _⟩
              · intro b9 X ph hE hd hn hS hV hI hF
                have r14 : b9.tmps[14]?.getD undef = .pointer (some ⟨gb, 0, none⟩) := (hn 14 (by kernel_rfl)).trans rfl
                have hp1 : ph ≤ 1 := hF 1 5 rfl (Pred.waits_near (by kernel_rfl) (by kernel_rfl))
                have z : blk X gb = some (.cells #[.int .i64 x0, .int .i64 x1, .int .i64 x2] 35 (0, 0)) := by
                  rcases (show ph = 0 ∨ ph = 1 by omega) with rfl | rfl
                  · have hb0 : (fun y9 => Below W3.heap.size W3 y9) X := hS
                    exact (blk_below hb0 _ (blk_lt bG3)).trans bG3
                  · have hb1 : (fun y9 => Aw w y9 lo pb gw n d (touchR R [x0, x1, x2]) ∧ PF lo gw W3 y9) X := hS
                    exact pg_pf HS3.out.aw.p hb1.2 bG3
                exact Pred.yields_run (v := .agg #[.int .i64 x0, .int .i64 x1, .int .i64 x2]) (Pred.wanted_none rfl) (by go_simp) ⟨Below.refl _ _, rfl, Nat.zero_le _⟩
              · intro b9 X ph hE hd hn hS hV hI hF
                obtain ⟨r125, j125⟩ : PredT.At 1 (.bool (hasR R [x0, x1, x2])) (b9.tmps[125]?.getD undef) X ph := hV 2 _ 125 rfl rfl (Pred.waits_near (by kernel_rfl) (by kernel_rfl))
                obtain ⟨r128, j128⟩ : PredT.At 2 (.bool (hasR R [x0, x1, x2])) (b9.tmps[128]?.getD undef) X ph := hV 5 _ 128 rfl rfl (Pred.waits_near (by kernel_rfl) (by kernel_rfl))
                exact Pred.yields_run (v := .bool false) (Pred.wanted_none rfl) (by go_simp) ⟨Below.refl _ _, rfl, by omega⟩
            · refine ⟨?_, ?_, trivial⟩
              · refine ⟨_, rfl, fun k hk => (by cases hk), fun b9 X hE hd hn hS hV hI => ?_⟩
                obtain ⟨r123, j123⟩ : PredT.At 0 (.pointer (some ⟨pb, 0, none⟩)) (b9.tmps[123]?.getD undef) X 0 := hV 0 _ 123 rfl rfl (Pred.waits_near (by kernel_rfl) (by kernel_rfl))
                obtain ⟨r124, j124⟩ : PredT.At 0 (.agg #[.int .i64 x0, .int .i64 x1, .int .i64 x2]) (b9.tmps[124]?.getD undef) X 0 := hV 1 _ 124 rfl rfl (Pred.waits_near (by kernel_rfl) (by kernel_rfl))
                replace hS : (fun y9 => Below W3.heap.size W3 y9) X := hS
                have hb0 : (fun y9 => Below W3.heap.size W3 y9) X := hS
                refine Pred.yields_call (f := 15) (args := #[.pointer (some ⟨pb, 0, none⟩), .agg #[.int .i64 x0, .int .i64 x1, .int .i64 x2]]) (Pred.wanted_none rfl) (by clear hS hb0 hI hV hn; go_simp) ?_
                refine (aw_touch x0 x1 x2 X (HS3.out.aw.bel hb0)).mono ?_
                rintro e w9 ⟨rfl, h2, h3⟩
                exact ⟨_, rfl, (PF.below h3).mono (Nat.zero_le _), ⟨h2, (PF.of_below hb0 (Pl.low HS3.out.aw.p)).trans h3⟩, rfl, by omega⟩
              · refine ⟨_, rfl, fun k hk => (by cases hk; exact Pred.waits_near (by kernel_rfl) (by kernel_rfl)), fun b9 X hE hd hn hS hV hI => ?_⟩
                obtain ⟨r126, j126⟩ : PredT.At 0 (.pointer (some ⟨qb, 0, none⟩)) (b9.tmps[126]?.getD undef) X 1 := hV 3 _ 126 rfl rfl (Pred.waits_near (by kernel_rfl) (by kernel_rfl))
                obtain ⟨r127, j127⟩ : PredT.At 0 (.agg #[.int .i64 x0, .int .i64 x1, .int .i64 x2]) (b9.tmps[127]?.getD undef) X 1 := hV 4 _ 127 rfl rfl (Pred.waits_near (by kernel_rfl) (by kernel_rfl))
                replace hS : (fun y9 => Aw w y9 lo pb gw n d (touchR R [x0, x1, x2]) ∧ PF lo gw W3 y9) X := hS
                have hb1 : (fun y9 => Aw w y9 lo pb gw n d (touchR R [x0, x1, x2]) ∧ PF lo gw W3 y9) X := hS
                obtain ⟨v9, rs9, hr9⟩ := HS3.out.rp
                have hr1 := hr9.pf HS3.out.aw.p hb1.2
                have hs9 := HS3.out.small
                refine Pred.yields_call (f := 16) (args := #[.pointer (some ⟨qb, 0, none⟩), .agg #[.int .i64 x0, .int .i64 x1, .int .i64 x2]]) (Pred.wanted_none rfl) (by clear hS hb1 hI hV hn hr1 hr9; go_simp) ?_
                refine (rtouch_any x0 x1 x2 X hr1 hs9.1).mono ?_
                rintro e w9 ⟨rfl, v8, rs8, h2, h3⟩
                exact ⟨_, rfl, below_zero h3, ⟨⟨PoX.Aw.gq hb1.1 hr1 HS3.out.lo h3, ⟨_, _, h2⟩, by_touch HS3.out.by_, HS3.out.lo⟩, pg_gq hr1 h3 (pg_pf HS3.out.aw.p hb1.2 bG3)⟩, rfl, by omega⟩
            intro v X hE hS hv
            replace hS : (fun y9 => As w y9 lo pb gw base qb n d (touchR R [x0, x1, x2]) ∧ blk y9 gb = some (.cells #[.int .i64 x0, .int .i64 x1, .int .i64 x2] 35 (0, 0))) X := hS
            have e0 : v 0 = .pointer (some ⟨pb, 0, none⟩) := (hv 0 _ 123 rfl rfl).1
            have e1 : v 1 = .agg #[.int .i64 x0, .int .i64 x1, .int .i64 x2] := (hv 1 _ 124 rfl rfl).1
            have e2 : v 2 = .bool (hasR R [x0, x1, x2]) := (hv 2 _ 125 rfl rfl).1
            have e3 : v 3 = .pointer (some ⟨qb, 0, none⟩) := (hv 3 _ 126 rfl rfl).1
            have e4 : v 4 = .agg #[.int .i64 x0, .int .i64 x1, .int .i64 x2] := (hv 4 _ 127 rfl rfl).1
            have e5 : v 5 = .bool (hasR R [x0, x1, x2]) := (hv 5 _ 128 rfl rfl).1
            have e6 : v 6 = .bool false := (hv 6 _ 129 rfl rfl).1
            simp only [Pred.putsF_cons, Pred.putsF_nil, Nat.zero_add, Nat.reduceAdd, e0, e1, e2, e3, e4, e5, e6, Act.put, List.setIfInBounds_toArray, List.set_cons_zero, List.set_cons_succ]
            clear e0 e1 e2 e3 e4 e5 e6 hv
            obtain ⟨hs9, hb9⟩ := hS
            have HS9 := Lib.hid hs9
            clear hs9 hE
            go_wp2_with fail
            go_meet
            exact ⟨Lib.hid ⟨_, HS9.out⟩, hb9⟩
          · have t1 : (K == 1) = false := beq_eq_false_iff_ne.2 hK
            have t2 : (K == 2) = false := beq_eq_false_iff_ne.2 hK2
            go_wp2
            go_meet
            exact ⟨Lib.hid ⟨_, HS3.out⟩, bG3⟩
      case rest =>
      obtain ⟨HS9, bG⟩ := hcut
      obtain ⟨R2, hS9⟩ := HS9.out
      obtain ⟨Z, eZ⟩ : ∃ z : World, z = wc := ⟨_, rfl⟩
      subst eZ
      obtain ⟨v, rs, hr⟩ := hS9.rp
      obtain ⟨hb, ehb⟩ : ∃ x, hasR R2 [x0, x1, x2] = x := ⟨_, rfl⟩
      obtain ⟨bx, ebx⟩ : ∃ x, bytesR R2 [x0, x1, x2] = x := ⟨_, rfl⟩
      obtain ⟨A, eA⟩ : ∃ x, allR d R2 = x := ⟨_, rfl⟩
      have hbx : By bx := by rw [← ebx]; exact by_at hS9.by_
      have hal : R2.length = A.length := by rw [← eA]; exact (len_pl hS9.aw.p).symm
      have hsm := hS9.small
      have CG := cget x0 x1 x2 Z hS9.aw.p
      have CM := fun (X : World) (hX : Rp X base qb n d v rs R2) => rget x0 x1 x2 X hX hsm.1
      have CW := fun (X : World) (hX : Rp X base qb n d v rs R2) => rall_any X hX hsm.1
      rw [ehb, ebx] at CG CM
      rw [eA] at CW
      have HS := Lib.hid hS9
      have HRP := Lib.hid hr
      have EH := Lib.hid ehb
      have BX := Lib.hid hbx
      have HA := Lib.hid eA
      have HL := Lib.hid hal
      have hA1 : 1 ≤ A.length := by omega
      have hA2 : A.length ≤ 1000 := by omega
      have HCG := Lib.hid CG
      have HCM := Lib.hid CM
      have HCW := Lib.hid CW
      clear hS9 hr ehb ebx hbx eA hal hsm CG CM CW HS9
      go_wp2_with fail
      refine HCG.out.mono ?_
      rintro e Z1 ⟨⟨ax, mx, cx, rfl, hrx⟩, hb1⟩
      have HX1 := Lib.hid hrx
      have HS1 := Lib.hid (HS.out.bel hb1)
      have HR1 := Lib.hid (HRP.out.bel hb1)
      have bG1 := (blk_below hb1 _ (blk_lt bG)).trans bG
      clear hrx hb1 HS HRP bG HCG
      go_wp2_with fail
      refine (HCM.out _ HR1.out).mono ?_
      rintro e Z2 ⟨⟨ay, my, cy, rfl, hry⟩, hb2⟩
      have HX2 := Lib.hid (HX1.out.below hb2 (Nat.le_refl _))
      have HY2 := Lib.hid hry
      have HS2 := Lib.hid (HS1.out.bel hb2)
      have HR2 := Lib.hid (HR1.out.bel hb2)
      have bG2 := (blk_below hb2 _ (blk_lt bG1)).trans bG1
      clear hry hb2 HS1 HR1 bG1 HCM HX1
      go_wp2_with fail
      refine (HCW.out _ HR2.out).mono ?_
      rintro e Z3 ⟨⟨aw, cw, rfl, hcw, -, hPw⟩, hb3⟩
      obtain ⟨wb, wo, cur9, rfl, -⟩ := hPw.at (i := 0) (by omega)
      have HX := Lib.hid (HX2.out.below hb3 (Nat.le_refl _))
      have HY := Lib.hid (HY2.out.below hb3 (Nat.le_refl _))
      have HS := Lib.hid (HS2.out.bel hb3)
      have bG := (blk_below hb3 _ (blk_lt bG2)).trans bG2
      have HP := Lib.hid hPw
      obtain ⟨A1, eA1⟩ : ∃ x, A.take 1 = x := ⟨_, rfl⟩
      have hl1 : A1.length = 1 := by rw [← eA1, List.length_take]; omega
      have ht1 : PgAt Z3 (some ⟨wb, wo, none⟩) A1 := by rw [← eA1]; exact PoX.PgAt.take hPw.pg 1
      have hv1 : cutV A ((1 : Nat) : Int) = A1 := by rw [cut_take hA1, eA1]
      have HL1 := Lib.hid hl1
      have HPT := Lib.hid ht1
      have HA1 := Lib.hid hv1
      have hc1 : (1 : Int) ≤ (cw : Int) := by omega
      clear hPw hb3 HS2 HR2 bG2 HCW HX2 HY2 eA1 hl1 ht1 hv1
      go_upto_region 31 with (fail)
      refine Pred.region_vals (Pred.Of [
          Is (.slice ax mx cx),
          Is (.string (bytesOf bx)),
          Is (.slice ay my cy),
          Is (.string (bytesOf bx)),
          Is (.bool false),
          Is (.bool false),
          Is (.bool hb),
          Is (.bool hb),
          Is (.bool false),
          Is (.bool false),
          Is (.bool false),
          Is (.pointer (some ⟨pb, 0, none⟩)),
          Is (.agg #[.int .i64 x0, .int .i64 x1, .int .i64 x2]),
          Is (.bool hb),
          Is (.pointer (some ⟨qb, 0, none⟩)),
          Is (.agg #[.int .i64 x0, .int .i64 x1, .int .i64 x2]),
          Is (.bool hb),
          Is (.bool false),
          Is (.bool false),
          Is (.bool false),
          Is (.pointer (some ⟨pb, 0, none⟩)),
          Is (.int .i64 (A.length : Int)),
          Is (.slice (some ⟨wb, wo, none⟩) A.length cw),
          Is (.int .i64 (A.length : Int)),
          Is (.bool false),
          Is (.bool false),
          Is (.bool false),
          Is (.pointer (some ⟨pb, 0, none⟩)),
          PgS (A),
          Is (.slice (some ⟨wb, wo, none⟩) A.length cw),
          Is (.bool true),
          Is (.bool false),
          Is (.bool false),
          Is (.bool false),
          Is (.pointer (some ⟨pb, 0, none⟩)),
          PgS (A1),
          Is (.slice (some ⟨wb, wo, none⟩) A.length cw),
          Is (.slice (some ⟨wb, wo, none⟩) A1.length cw),
          Is (.bool true),
          Is (.bool false),
          Is (.bool false)]) (by kernel_rfl) (by kernel_rfl) (by kernel_rfl) (Pred.of_stab ?_) ?_ ?_
      · exact ⟨is_stab _, is_stab _, is_stab _, is_stab _, is_stab _, is_stab _, is_stab _, is_stab _, is_stab _, is_stab _, is_stab _, is_stab _, is_stab _, is_stab _, is_stab _, is_stab _, is_stab _, is_stab _, is_stab _, is_stab _, is_stab _, is_stab _, is_stab _, is_stab _, is_stab _, is_stab _, is_stab _, is_stab _, pgs_stab _, is_stab _, is_stab _, is_stab _, is_stab _, is_stab _, is_stab _, pgs_stab _, is_stab _, is_stab _, is_stab _, is_stab _, is_stab _, trivial⟩
      · refine ⟨?_, ?_, ?_, ?_, ?_, ?_, ?_, ?_, ?_, ?_, ?_, ?_, ?_, ?_, ?_, ?_, ?_, ?_, ?_, ?_, ?_, ?_, ?_, ?_, ?_, ?_, ?_, ?_, ?_, ?_, ?_, ?_, ?_, ?_, ?_, ?_, ?_, ?_, ?_, ?_, ?_, trivial⟩
        · intro b X hE hd hn hV
          have r20 : b.tmps[20]?.getD undef = .slice ax mx cx := (hn 20 (by kernel_rfl)).trans rfl
          exact Pred.yields_run (v := .slice ax mx cx) (Pred.wanted_none rfl) (by go_simp) ⟨Pred.ext_refl _ _, rfl⟩
        · intro b X hE hd hn hV
          have r144 : b.tmps[144]?.getD undef = .slice ax mx cx := hV 0 _ 144 rfl rfl (Pred.waits_near (by kernel_rfl) (by kernel_rfl))
          have hc9 : (convert 22 9 (.slice ax mx cx)).run Try.prog X = .ok (.string (bytesOf bx)) X := Rd.conv_reads Try.underlying22 Try.underlying5 Try.underlying9 (HX.out.below hE (Nat.le_refl _)) BX.out
          exact Pred.yields_run (v := .string (bytesOf bx)) (Pred.wanted_none rfl) (by go_simp) ⟨Pred.ext_refl _ _, rfl⟩
        · intro b X hE hd hn hV
          have r22 : b.tmps[22]?.getD undef = .slice ay my cy := (hn 22 (by kernel_rfl)).trans rfl
          exact Pred.yields_run (v := .slice ay my cy) (Pred.wanted_none rfl) (by go_simp) ⟨Pred.ext_refl _ _, rfl⟩
        · intro b X hE hd hn hV
          have r146 : b.tmps[146]?.getD undef = .slice ay my cy := hV 2 _ 146 rfl rfl (Pred.waits_near (by kernel_rfl) (by kernel_rfl))
          have hc9 : (convert 22 9 (.slice ay my cy)).run Try.prog X = .ok (.string (bytesOf bx)) X := Rd.conv_reads Try.underlying22 Try.underlying5 Try.underlying9 (HY.out.below hE (Nat.le_refl _)) BX.out
          exact Pred.yields_run (v := .string (bytesOf bx)) (Pred.wanted_none rfl) (by go_simp) ⟨Pred.ext_refl _ _, rfl⟩
        · intro b X hE hd hn hV
          have r145 : b.tmps[145]?.getD undef = .string (bytesOf bx) := hV 1 _ 145 rfl rfl (Pred.waits_near (by kernel_rfl) (by kernel_rfl))
          have r147 : b.tmps[147]?.getD undef = .string (bytesOf bx) := hV 3 _ 147 rfl rfl (Pred.waits_near (by kernel_rfl) (by kernel_rfl))
          exact Pred.yields_run (v := .bool false) (Pred.wanted_none rfl) (by go_simp) ⟨Pred.ext_refl _ _, rfl⟩
        · intro b X hE hd hn hV
          have r148 : b.tmps[148]?.getD undef = .bool false := hV 4 _ 148 rfl rfl (Pred.waits_near (by kernel_rfl) (by kernel_rfl))
          exact Pred.yields_run (v := .bool false) (Pred.wanted_none rfl) (by go_simp) ⟨Pred.ext_refl _ _, rfl⟩
        · intro b X hE hd hn hV
          have r21 : b.tmps[21]?.getD undef = .bool hb := (hn 21 (by kernel_rfl)).trans rfl
          have r149 : b.tmps[149]?.getD undef = .bool false := hV 5 _ 149 rfl rfl (Pred.waits_near (by kernel_rfl) (by kernel_rfl))
          exact Pred.yields_run (v := .bool hb) ((Pred.wanted_at (g := 5) (d := 149) (f := false) rfl rfl r149).trans rfl) (by go_simp) ⟨Pred.ext_refl _ _, rfl⟩
        · intro b X hE hd hn hV
          have r23 : b.tmps[23]?.getD undef = .bool hb := (hn 23 (by kernel_rfl)).trans rfl
          have r149 : b.tmps[149]?.getD undef = .bool false := hV 5 _ 149 rfl rfl (Pred.waits_near (by kernel_rfl) (by kernel_rfl))
          exact Pred.yields_run (v := .bool hb) ((Pred.wanted_at (g := 5) (d := 149) (f := false) rfl rfl r149).trans rfl) (by go_simp) ⟨Pred.ext_refl _ _, rfl⟩
        · intro b X hE hd hn hV
          have r150 : b.tmps[150]?.getD undef = .bool hb := hV 6 _ 150 rfl rfl (Pred.waits_near (by kernel_rfl) (by kernel_rfl))
          have r151 : b.tmps[151]?.getD undef = .bool hb := hV 7 _ 151 rfl rfl (Pred.waits_near (by kernel_rfl) (by kernel_rfl))
          have r149 : b.tmps[149]?.getD undef = .bool false := hV 5 _ 149 rfl rfl (Pred.waits_near (by kernel_rfl) (by kernel_rfl))
          exact Pred.yields_run (v := .bool false) ((Pred.wanted_at (g := 5) (d := 149) (f := false) rfl rfl r149).trans rfl) (by go_simp) ⟨Pred.ext_refl _ _, rfl⟩
        · intro b X hE hd hn hV
          have r149 : b.tmps[149]?.getD undef = .bool false := hV 5 _ 149 rfl rfl (Pred.waits_near (by kernel_rfl) (by kernel_rfl))
          have r152 : b.tmps[152]?.getD undef = .bool false := hV 8 _ 152 rfl rfl (Pred.waits_near (by kernel_rfl) (by kernel_rfl))
          exact Pred.yields_run (v := .bool false) (Pred.wanted_none rfl) (by go_simp) ⟨Pred.ext_refl _ _, rfl⟩
        · intro b X hE hd hn hV
          have r153 : b.tmps[153]?.getD undef = .bool false := hV 9 _ 153 rfl rfl (Pred.waits_near (by kernel_rfl) (by kernel_rfl))
          exact Pred.yields_run (v := .bool false) (Pred.wanted_none rfl) (by go_simp) ⟨Pred.ext_refl _ _, rfl⟩
        · intro b X hE hd hn hV
          have r9 : b.tmps[9]?.getD undef = .pointer (some ⟨pb, 0, none⟩) := (hn 9 (by kernel_rfl)).trans rfl
          have r154 : b.tmps[154]?.getD undef = .bool false := hV 10 _ 154 rfl rfl (Pred.waits_near (by kernel_rfl) (by kernel_rfl))
          exact Pred.yields_run (v := .pointer (some ⟨pb, 0, none⟩)) ((Pred.wanted_at (g := 10) (d := 154) (f := false) rfl rfl r154).trans rfl) (by go_simp) ⟨Pred.ext_refl _ _, rfl⟩
        · intro b X hE hd hn hV
          have r14 : b.tmps[14]?.getD undef = .pointer (some ⟨gb, 0, none⟩) := (hn 14 (by kernel_rfl)).trans rfl
          have r154 : b.tmps[154]?.getD undef = .bool false := hV 10 _ 154 rfl rfl (Pred.waits_near (by kernel_rfl) (by kernel_rfl))
          have z := (blk_below hE _ (blk_lt bG)).trans bG
          exact Pred.yields_run (v := .agg #[.int .i64 x0, .int .i64 x1, .int .i64 x2]) ((Pred.wanted_at (g := 10) (d := 154) (f := false) rfl rfl r154).trans rfl) (by go_simp) ⟨Pred.ext_refl _ _, rfl⟩
        · intro b X hE hd hn hV
          have r155 : b.tmps[155]?.getD undef = .pointer (some ⟨pb, 0, none⟩) := hV 11 _ 155 rfl rfl (Pred.waits_near (by kernel_rfl) (by kernel_rfl))
          have r156 : b.tmps[156]?.getD undef = .agg #[.int .i64 x0, .int .i64 x1, .int .i64 x2] := hV 12 _ 156 rfl rfl (Pred.waits_near (by kernel_rfl) (by kernel_rfl))
          have r154 : b.tmps[154]?.getD undef = .bool false := hV 10 _ 154 rfl rfl (Pred.waits_near (by kernel_rfl) (by kernel_rfl))
          refine Pred.yields_call (f := 20) (args := #[.pointer (some ⟨pb, 0, none⟩), .agg #[.int .i64 x0, .int .i64 x1, .int .i64 x2]]) ((Pred.wanted_at (g := 10) (d := 154) (f := false) rfl rfl r154).trans rfl) (by go_simp) ?_
          refine (has_any x0 x1 x2 X (HS.out.bel hE).aw.p).mono ?_
          rintro e w9 ⟨he, hb9⟩
          exact ⟨_, he, Pred.ext_below hb9 hE.size, by rw [EH.out]; rfl⟩
        · intro b X hE hd hn hV
          have r11 : b.tmps[11]?.getD undef = .pointer (some ⟨qb, 0, none⟩) := (hn 11 (by kernel_rfl)).trans rfl
          have r154 : b.tmps[154]?.getD undef = .bool false := hV 10 _ 154 rfl rfl (Pred.waits_near (by kernel_rfl) (by kernel_rfl))
          exact Pred.yields_run (v := .pointer (some ⟨qb, 0, none⟩)) ((Pred.wanted_at (g := 10) (d := 154) (f := false) rfl rfl r154).trans rfl) (by go_simp) ⟨Pred.ext_refl _ _, rfl⟩
        · intro b X hE hd hn hV
          have r14 : b.tmps[14]?.getD undef = .pointer (some ⟨gb, 0, none⟩) := (hn 14 (by kernel_rfl)).trans rfl
          have r154 : b.tmps[154]?.getD undef = .bool false := hV 10 _ 154 rfl rfl (Pred.waits_near (by kernel_rfl) (by kernel_rfl))
          have z := (blk_below hE _ (blk_lt bG)).trans bG
          exact Pred.yields_run (v := .agg #[.int .i64 x0, .int .i64 x1, .int .i64 x2]) ((Pred.wanted_at (g := 10) (d := 154) (f := false) rfl rfl r154).trans rfl) (by go_simp) ⟨Pred.ext_refl _ _, rfl⟩
        · intro b X hE hd hn hV
          have r158 : b.tmps[158]?.getD undef = .pointer (some ⟨qb, 0, none⟩) := hV 14 _ 158 rfl rfl (Pred.waits_near (by kernel_rfl) (by kernel_rfl))
          have r159 : b.tmps[159]?.getD undef = .agg #[.int .i64 x0, .int .i64 x1, .int .i64 x2] := hV 15 _ 159 rfl rfl (Pred.waits_near (by kernel_rfl) (by kernel_rfl))
          have r154 : b.tmps[154]?.getD undef = .bool false := hV 10 _ 154 rfl rfl (Pred.waits_near (by kernel_rfl) (by kernel_rfl))
          obtain ⟨v9, rs9, hr9⟩ := (HS.out.bel hE).rp
          refine Pred.yields_call (f := 21) (args := #[.pointer (some ⟨qb, 0, none⟩), .agg #[.int .i64 x0, .int .i64 x1, .int .i64 x2]]) ((Pred.wanted_at (g := 10) (d := 154) (f := false) rfl rfl r154).trans rfl) (by clear hr9; go_simp) ?_
          refine (rhas_any x0 x1 x2 X hr9 HS.out.small.1).mono ?_
          rintro e w9 ⟨he, hb9⟩
          exact ⟨_, he, Pred.ext_below hb9 hE.size, by rw [EH.out]; rfl⟩
        · intro b X hE hd hn hV
          have r157 : b.tmps[157]?.getD undef = .bool hb := hV 13 _ 157 rfl rfl (Pred.waits_near (by kernel_rfl) (by kernel_rfl))
          have r160 : b.tmps[160]?.getD undef = .bool hb := hV 16 _ 160 rfl rfl (Pred.waits_near (by kernel_rfl) (by kernel_rfl))
          have r154 : b.tmps[154]?.getD undef = .bool false := hV 10 _ 154 rfl rfl (Pred.waits_near (by kernel_rfl) (by kernel_rfl))
          exact Pred.yields_run (v := .bool false) ((Pred.wanted_at (g := 10) (d := 154) (f := false) rfl rfl r154).trans rfl) (by go_simp) ⟨Pred.ext_refl _ _, rfl⟩
        · intro b X hE hd hn hV
          have r154 : b.tmps[154]?.getD undef = .bool false := hV 10 _ 154 rfl rfl (Pred.waits_near (by kernel_rfl) (by kernel_rfl))
          have r161 : b.tmps[161]?.getD undef = .bool false := hV 17 _ 161 rfl rfl (Pred.waits_near (by kernel_rfl) (by kernel_rfl))
          exact Pred.yields_run (v := .bool false) (Pred.wanted_none rfl) (by go_simp) ⟨Pred.ext_refl _ _, rfl⟩
        · intro b X hE hd hn hV
          have r162 : b.tmps[162]?.getD undef = .bool false := hV 18 _ 162 rfl rfl (Pred.waits_near (by kernel_rfl) (by kernel_rfl))
          exact Pred.yields_run (v := .bool false) (Pred.wanted_none rfl) (by go_simp) ⟨Pred.ext_refl _ _, rfl⟩
        · intro b X hE hd hn hV
          have r9 : b.tmps[9]?.getD undef = .pointer (some ⟨pb, 0, none⟩) := (hn 9 (by kernel_rfl)).trans rfl
          have r163 : b.tmps[163]?.getD undef = .bool false := hV 19 _ 163 rfl rfl (Pred.waits_near (by kernel_rfl) (by kernel_rfl))
          exact Pred.yields_run (v := .pointer (some ⟨pb, 0, none⟩)) ((Pred.wanted_at (g := 19) (d := 163) (f := false) rfl rfl r163).trans rfl) (by go_simp) ⟨Pred.ext_refl _ _, rfl⟩
        · intro b X hE hd hn hV
          have r164 : b.tmps[164]?.getD undef = .pointer (some ⟨pb, 0, none⟩) := hV 20 _ 164 rfl rfl (Pred.waits_near (by kernel_rfl) (by kernel_rfl))
          have r163 : b.tmps[163]?.getD undef = .bool false := hV 19 _ 163 rfl rfl (Pred.waits_near (by kernel_rfl) (by kernel_rfl))
          refine Pred.yields_call (f := 22) (args := #[.pointer (some ⟨pb, 0, none⟩)]) ((Pred.wanted_at (g := 19) (d := 163) (f := false) rfl rfl r163).trans rfl) (by go_simp) ?_
          refine (PoB.len_any X (HS.out.bel hE).aw.p).mono ?_
          rintro e w9 ⟨he, hb9⟩
          exact ⟨_, he, Pred.ext_below hb9 hE.size, by rw [HL.out]; rfl⟩
        · intro b X hE hd hn hV
          have r24 : b.tmps[24]?.getD undef = .slice (some ⟨wb, wo, none⟩) A.length cw := (hn 24 (by kernel_rfl)).trans rfl
          have r163 : b.tmps[163]?.getD undef = .bool false := hV 19 _ 163 rfl rfl (Pred.waits_near (by kernel_rfl) (by kernel_rfl))
          exact Pred.yields_run (v := .slice (some ⟨wb, wo, none⟩) A.length cw) ((Pred.wanted_at (g := 19) (d := 163) (f := false) rfl rfl r163).trans rfl) (by go_simp) ⟨Pred.ext_refl _ _, rfl⟩
        · intro b X hE hd hn hV
          have r166 : b.tmps[166]?.getD undef = .slice (some ⟨wb, wo, none⟩) A.length cw := hV 22 _ 166 rfl rfl (Pred.waits_near (by kernel_rfl) (by kernel_rfl))
          have r163 : b.tmps[163]?.getD undef = .bool false := hV 19 _ 163 rfl rfl (Pred.waits_near (by kernel_rfl) (by kernel_rfl))
          exact Pred.yields_run (v := .int .i64 (A.length : Int)) ((Pred.wanted_at (g := 19) (d := 163) (f := false) rfl rfl r163).trans rfl) (by go_simp) ⟨Pred.ext_refl _ _, rfl⟩
        · intro b X hE hd hn hV
          have r165 : b.tmps[165]?.getD undef = .int .i64 (A.length : Int) := hV 21 _ 165 rfl rfl (Pred.waits_near (by kernel_rfl) (by kernel_rfl))
          have r167 : b.tmps[167]?.getD undef = .int .i64 (A.length : Int) := hV 23 _ 167 rfl rfl (Pred.waits_near (by kernel_rfl) (by kernel_rfl))
          have r163 : b.tmps[163]?.getD undef = .bool false := hV 19 _ 163 rfl rfl (Pred.waits_near (by kernel_rfl) (by kernel_rfl))
          exact Pred.yields_run (v := .bool false) ((Pred.wanted_at (g := 19) (d := 163) (f := false) rfl rfl r163).trans rfl) (by go_simp) ⟨Pred.ext_refl _ _, rfl⟩
        · intro b X hE hd hn hV
          have r163 : b.tmps[163]?.getD undef = .bool false := hV 19 _ 163 rfl rfl (Pred.waits_near (by kernel_rfl) (by kernel_rfl))
          have r168 : b.tmps[168]?.getD undef = .bool false := hV 24 _ 168 rfl rfl (Pred.waits_near (by kernel_rfl) (by kernel_rfl))
          exact Pred.yields_run (v := .bool false) (Pred.wanted_none rfl) (by go_simp) ⟨Pred.ext_refl _ _, rfl⟩
        · intro b X hE hd hn hV
          have r169 : b.tmps[169]?.getD undef = .bool false := hV 25 _ 169 rfl rfl (Pred.waits_near (by kernel_rfl) (by kernel_rfl))
          exact Pred.yields_run (v := .bool false) (Pred.wanted_none rfl) (by go_simp) ⟨Pred.ext_refl _ _, rfl⟩
        · intro b X hE hd hn hV
          have r9 : b.tmps[9]?.getD undef = .pointer (some ⟨pb, 0, none⟩) := (hn 9 (by kernel_rfl)).trans rfl
          have r170 : b.tmps[170]?.getD undef = .bool false := hV 26 _ 170 rfl rfl (Pred.waits_near (by kernel_rfl) (by kernel_rfl))
          exact Pred.yields_run (v := .pointer (some ⟨pb, 0, none⟩)) ((Pred.wanted_at (g := 26) (d := 170) (f := false) rfl rfl r170).trans rfl) (by go_simp) ⟨Pred.ext_refl _ _, rfl⟩
        · intro b X hE hd hn hV
          have r171 : b.tmps[171]?.getD undef = .pointer (some ⟨pb, 0, none⟩) := hV 27 _ 171 rfl rfl (Pred.waits_near (by kernel_rfl) (by kernel_rfl))
          have r170 : b.tmps[170]?.getD undef = .bool false := hV 26 _ 170 rfl rfl (Pred.waits_near (by kernel_rfl) (by kernel_rfl))
          refine Pred.yields_call (f := 23) (args := #[.pointer (some ⟨pb, 0, none⟩), .int .i64 (-1)]) ((Pred.wanted_at (g := 26) (d := 170) (f := false) rfl rfl r170).trans rfl) (by go_simp) ?_
          refine (all_pl (-1) X (HS.out.bel hE).aw.p).mono ?_
          rintro e w9 ⟨⟨a9, c9, rfl, h9⟩, hb9⟩
          rw [cut_all, HA.out] at h9
          exact ⟨_, by rw [cut_all, HA.out], Pred.ext_below hb9 hE.size, a9, c9, rfl, h9⟩
        · intro b X hE hd hn hV
          have r24 : b.tmps[24]?.getD undef = .slice (some ⟨wb, wo, none⟩) A.length cw := (hn 24 (by kernel_rfl)).trans rfl
          have r170 : b.tmps[170]?.getD undef = .bool false := hV 26 _ 170 rfl rfl (Pred.waits_near (by kernel_rfl) (by kernel_rfl))
          exact Pred.yields_run (v := .slice (some ⟨wb, wo, none⟩) A.length cw) ((Pred.wanted_at (g := 26) (d := 170) (f := false) rfl rfl r170).trans rfl) (by go_simp) ⟨Pred.ext_refl _ _, rfl⟩
        · intro b X hE hd hn hV
          obtain ⟨ga172, ca172, r172, hp172⟩ : PgS (A) (b.tmps[172]?.getD undef) X := hV 28 _ 172 rfl rfl (Pred.waits_near (by kernel_rfl) (by kernel_rfl))
          have r173 : b.tmps[173]?.getD undef = .slice (some ⟨wb, wo, none⟩) A.length cw := hV 29 _ 173 rfl rfl (Pred.waits_near (by kernel_rfl) (by kernel_rfl))
          have r170 : b.tmps[170]?.getD undef = .bool false := hV 26 _ 170 rfl rfl (Pred.waits_near (by kernel_rfl) (by kernel_rfl))
          refine Pred.yields_call (f := 14) (args := #[.slice ga172 A.length ca172, .slice (some ⟨wb, wo, none⟩) A.length cw]) ((Pred.wanted_at (g := 26) (d := 170) (f := false) rfl rfl r170).trans rfl) (by clear hp172; go_simp) ?_
          refine (pages_any A A ga172 _ ca172 cw X hp172 ((HP.out.bel hE).pg) (by omega) (by omega)).mono ?_
          rintro e w9 ⟨he, hb9⟩
          exact ⟨_, he, Pred.ext_below hb9 hE.size, by rw [decide_eq_true rfl]; rfl⟩
        · intro b X hE hd hn hV
          have r174 : b.tmps[174]?.getD undef = .bool true := hV 30 _ 174 rfl rfl (Pred.waits_near (by kernel_rfl) (by kernel_rfl))
          have r170 : b.tmps[170]?.getD undef = .bool false := hV 26 _ 170 rfl rfl (Pred.waits_near (by kernel_rfl) (by kernel_rfl))
          exact Pred.yields_run (v := .bool false) ((Pred.wanted_at (g := 26) (d := 170) (f := false) rfl rfl r170).trans rfl) (by go_simp) ⟨Pred.ext_refl _ _, rfl⟩
        · intro b X hE hd hn hV
          have r170 : b.tmps[170]?.getD undef = .bool false := hV 26 _ 170 rfl rfl (Pred.waits_near (by kernel_rfl) (by kernel_rfl))
          have r175 : b.tmps[175]?.getD undef = .bool false := hV 31 _ 175 rfl rfl (Pred.waits_near (by kernel_rfl) (by kernel_rfl))
          exact Pred.yields_run (v := .bool false) (Pred.wanted_none rfl) (by go_simp) ⟨Pred.ext_refl _ _, rfl⟩
        · intro b X hE hd hn hV
          have r176 : b.tmps[176]?.getD undef = .bool false := hV 32 _ 176 rfl rfl (Pred.waits_near (by kernel_rfl) (by kernel_rfl))
          exact Pred.yields_run (v := .bool false) (Pred.wanted_none rfl) (by go_simp) ⟨Pred.ext_refl _ _, rfl⟩
        · intro b X hE hd hn hV
          have r9 : b.tmps[9]?.getD undef = .pointer (some ⟨pb, 0, none⟩) := (hn 9 (by kernel_rfl)).trans rfl
          have r177 : b.tmps[177]?.getD undef = .bool false := hV 33 _ 177 rfl rfl (Pred.waits_near (by kernel_rfl) (by kernel_rfl))
          exact Pred.yields_run (v := .pointer (some ⟨pb, 0, none⟩)) ((Pred.wanted_at (g := 33) (d := 177) (f := false) rfl rfl r177).trans rfl) (by go_simp) ⟨Pred.ext_refl _ _, rfl⟩
        · intro b X hE hd hn hV
          have r178 : b.tmps[178]?.getD undef = .pointer (some ⟨pb, 0, none⟩) := hV 34 _ 178 rfl rfl (Pred.waits_near (by kernel_rfl) (by kernel_rfl))
          have r177 : b.tmps[177]?.getD undef = .bool false := hV 33 _ 177 rfl rfl (Pred.waits_near (by kernel_rfl) (by kernel_rfl))
          refine Pred.yields_call (f := 23) (args := #[.pointer (some ⟨pb, 0, none⟩), .int .i64 1]) ((Pred.wanted_at (g := 33) (d := 177) (f := false) rfl rfl r177).trans rfl) (by go_simp) ?_
          refine (all_pl 1 X (HS.out.bel hE).aw.p).mono ?_
          rintro e w9 ⟨⟨a9, c9, rfl, h9⟩, hb9⟩
          rw [HA.out, show cutV A (1 : Int) = A1 from HA1.out] at h9
          exact ⟨_, by rw [HA.out, show cutV A (1 : Int) = A1 from HA1.out], Pred.ext_below hb9 hE.size, a9, c9, rfl, h9⟩
        · intro b X hE hd hn hV
          have r24 : b.tmps[24]?.getD undef = .slice (some ⟨wb, wo, none⟩) A.length cw := (hn 24 (by kernel_rfl)).trans rfl
          have r177 : b.tmps[177]?.getD undef = .bool false := hV 33 _ 177 rfl rfl (Pred.waits_near (by kernel_rfl) (by kernel_rfl))
          exact Pred.yields_run (v := .slice (some ⟨wb, wo, none⟩) A.length cw) ((Pred.wanted_at (g := 33) (d := 177) (f := false) rfl rfl r177).trans rfl) (by go_simp) ⟨Pred.ext_refl _ _, rfl⟩
        · intro b X hE hd hn hV
          have r180 : b.tmps[180]?.getD undef = .slice (some ⟨wb, wo, none⟩) A.length cw := hV 36 _ 180 rfl rfl (Pred.waits_near (by kernel_rfl) (by kernel_rfl))
          have r177 : b.tmps[177]?.getD undef = .bool false := hV 33 _ 177 rfl rfl (Pred.waits_near (by kernel_rfl) (by kernel_rfl))
          have hL1 := HL1.out
          exact Pred.yields_run (v := .slice (some ⟨wb, wo, none⟩) A1.length cw) ((Pred.wanted_at (g := 33) (d := 177) (f := false) rfl rfl r177).trans rfl) (by rw [hL1]; clear hL1; go_simp) ⟨Pred.ext_refl _ _, rfl⟩
        · intro b X hE hd hn hV
          obtain ⟨ga179, ca179, r179, hp179⟩ : PgS (A1) (b.tmps[179]?.getD undef) X := hV 35 _ 179 rfl rfl (Pred.waits_near (by kernel_rfl) (by kernel_rfl))
          have r181 : b.tmps[181]?.getD undef = .slice (some ⟨wb, wo, none⟩) A1.length cw := hV 37 _ 181 rfl rfl (Pred.waits_near (by kernel_rfl) (by kernel_rfl))
          have r177 : b.tmps[177]?.getD undef = .bool false := hV 33 _ 177 rfl rfl (Pred.waits_near (by kernel_rfl) (by kernel_rfl))
          refine Pred.yields_call (f := 14) (args := #[.slice ga179 A1.length ca179, .slice (some ⟨wb, wo, none⟩) A1.length cw]) ((Pred.wanted_at (g := 33) (d := 177) (f := false) rfl rfl r177).trans rfl) (by clear hp179; go_simp) ?_
          have hl9 : A1.length ≤ 1000000 := by rw [HL1.out]; decide
          refine (pages_any A1 A1 ga179 _ ca179 cw X hp179 (PgC.PgAt.below (B := 0) HPT.out hE) hl9 hl9).mono ?_
          rintro e w9 ⟨he, hb9⟩
          exact ⟨_, he, Pred.ext_below hb9 hE.size, by rw [decide_eq_true rfl]; rfl⟩
        · intro b X hE hd hn hV
          have r182 : b.tmps[182]?.getD undef = .bool true := hV 38 _ 182 rfl rfl (Pred.waits_near (by kernel_rfl) (by kernel_rfl))
          have r177 : b.tmps[177]?.getD undef = .bool false := hV 33 _ 177 rfl rfl (Pred.waits_near (by kernel_rfl) (by kernel_rfl))
          exact Pred.yields_run (v := .bool false) ((Pred.wanted_at (g := 33) (d := 177) (f := false) rfl rfl r177).trans rfl) (by go_simp) ⟨Pred.ext_refl _ _, rfl⟩
        · intro b X hE hd hn hV
          have r177 : b.tmps[177]?.getD undef = .bool false := hV 33 _ 177 rfl rfl (Pred.waits_near (by kernel_rfl) (by kernel_rfl))
          have r183 : b.tmps[183]?.getD undef = .bool false := hV 39 _ 183 rfl rfl (Pred.waits_near (by kernel_rfl) (by kernel_rfl))
          exact Pred.yields_run (v := .bool false) (Pred.wanted_none rfl) (by go_simp) ⟨Pred.ext_refl _ _, rfl⟩
      intro v X hE hv
      have e0 : v 0 = .slice ax mx cx := hv 0 _ 144 rfl rfl
      have e1 : v 1 = .string (bytesOf bx) := hv 1 _ 145 rfl rfl
      have e2 : v 2 = .slice ay my cy := hv 2 _ 146 rfl rfl
      have e3 : v 3 = .string (bytesOf bx) := hv 3 _ 147 rfl rfl
      have e4 : v 4 = .bool false := hv 4 _ 148 rfl rfl
      have e5 : v 5 = .bool false := hv 5 _ 149 rfl rfl
      have e6 : v 6 = .bool hb := hv 6 _ 150 rfl rfl
      have e7 : v 7 = .bool hb := hv 7 _ 151 rfl rfl
      have e8 : v 8 = .bool false := hv 8 _ 152 rfl rfl
      have e9 : v 9 = .bool false := hv 9 _ 153 rfl rfl
      have e10 : v 10 = .bool false := hv 10 _ 154 rfl rfl
      have e11 : v 11 = .pointer (some ⟨pb, 0, none⟩) := hv 11 _ 155 rfl rfl
      have e12 : v 12 = .agg #[.int .i64 x0, .int .i64 x1, .int .i64 x2] := hv 12 _ 156 rfl rfl
      have e13 : v 13 = .bool hb := hv 13 _ 157 rfl rfl
      have e14 : v 14 = .pointer (some ⟨qb, 0, none⟩) := hv 14 _ 158 rfl rfl
      have e15 : v 15 = .agg #[.int .i64 x0, .int .i64 x1, .int .i64 x2] := hv 15 _ 159 rfl rfl
      have e16 : v 16 = .bool hb := hv 16 _ 160 rfl rfl
      have e17 : v 17 = .bool false := hv 17 _ 161 rfl rfl
      have e18 : v 18 = .bool false := hv 18 _ 162 rfl rfl
      have e19 : v 19 = .bool false := hv 19 _ 163 rfl rfl
      have e20 : v 20 = .pointer (some ⟨pb, 0, none⟩) := hv 20 _ 164 rfl rfl
      have e21 : v 21 = .int .i64 (A.length : Int) := hv 21 _ 165 rfl rfl
      have e22 : v 22 = .slice (some ⟨wb, wo, none⟩) A.length cw := hv 22 _ 166 rfl rfl
      have e23 : v 23 = .int .i64 (A.length : Int) := hv 23 _ 167 rfl rfl
      have e24 : v 24 = .bool false := hv 24 _ 168 rfl rfl
      have e25 : v 25 = .bool false := hv 25 _ 169 rfl rfl
      have e26 : v 26 = .bool false := hv 26 _ 170 rfl rfl
      have e27 : v 27 = .pointer (some ⟨pb, 0, none⟩) := hv 27 _ 171 rfl rfl
      obtain ⟨ga28, ca28, e28, hp28⟩ : PgS (A) (v 28) X := hv 28 _ 172 rfl rfl
      have e29 : v 29 = .slice (some ⟨wb, wo, none⟩) A.length cw := hv 29 _ 173 rfl rfl
      have e30 : v 30 = .bool true := hv 30 _ 174 rfl rfl
      have e31 : v 31 = .bool false := hv 31 _ 175 rfl rfl
      have e32 : v 32 = .bool false := hv 32 _ 176 rfl rfl
      have e33 : v 33 = .bool false := hv 33 _ 177 rfl rfl
      have e34 : v 34 = .pointer (some ⟨pb, 0, none⟩) := hv 34 _ 178 rfl rfl
      obtain ⟨ga35, ca35, e35, hp35⟩ : PgS (A1) (v 35) X := hv 35 _ 179 rfl rfl
      have e36 : v 36 = .slice (some ⟨wb, wo, none⟩) A.length cw := hv 36 _ 180 rfl rfl
      have e37 : v 37 = .slice (some ⟨wb, wo, none⟩) A1.length cw := hv 37 _ 181 rfl rfl
      have e38 : v 38 = .bool true := hv 38 _ 182 rfl rfl
      have e39 : v 39 = .bool false := hv 39 _ 183 rfl rfl
      have e40 : v 40 = .bool false := hv 40 _ 184 rfl rfl
      simp only [Pred.putsF_cons, Pred.putsF_nil, Nat.zero_add, Nat.reduceAdd, e0, e1, e2, e3, e4, e5, e6, e7, e8, e9, e10, e11, e12, e13, e14, e15, e16, e17, e18, e19, e20, e21, e22, e23, e24, e25, e26, e27, e28, e29, e30, e31, e32, e33, e34, e35, e36, e37, e38, e39, e40, Act.put, List.setIfInBounds_toArray, List.set_cons_zero, List.set_cons_succ]
      clear e0 e1 e2 e3 e4 e5 e6 e7 e8 e9 e10 e11 e12 e13 e14 e15 e16 e17 e18 e19 e20 e21 e22 e23 e24 e25 e26 e27 e28 e29 e30 e31 e32 e33 e34 e35 e36 e37 e38 e39 e40 hv
      go_wp2_with fail
      refine ⟨⟨k + 1, R2, by omega, by go_num, Lib.hid (HS.out.bel hE)⟩, by simp [intOf]; omega⟩
    · obtain rfl : k = len := by omega
      have L9 := HS.out.aw.low
      clear HS
      go_wp2_with fail
      refine (CA.out _).mono ?_
      rintro e w9 ⟨rfl, hb⟩
      have L10 := Rd.below_step L9 hb
      clear hb
      go_wp2
      go_ret
      exact ⟨rfl, L10⟩
end Go.Proofs.Ytkklppjimnkibaa.PoY
