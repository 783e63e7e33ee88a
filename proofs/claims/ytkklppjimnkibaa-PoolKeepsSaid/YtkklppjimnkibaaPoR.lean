/-
  PoolKeeps.
-/
import Derived.Test.YtkklppjimnkibaaPoQ
import Derived.Test.YtkklppjimnkibaaPredT
import Derived.Test.YtkklppjimnkibaaAlike
import Derived.BigGuard
import Derived.Deep.CutRange
import Derived.Deep.CutBlock
namespace Go.Proofs.Ytkklppjimnkibaa.PoR
open Go.RowKit Go.Shelf Rd Go.Proofs.Ytkklppjimnkibaa.Row Mid LrM LrA PgM PgA PgB PgC PgN PoM PoA PoB PoE PoH PoI PoJ PoK PoL PoP PoQ
open Go.Proofs.Ytkklppjimnkibaa.Alk (round_any)
open Go.Proofs.Ytkklppjimnkibaa.PoD (us us_len By dataL data_len data_B data_any)
open Go.Proofs.Ytkklppjimnkibaa.Num (ret_int ret_bool)
open Go.Proofs.Ytkklppjimnkibaa.MpE (owns_mono)
open Go.Proofs.Ytkklppjimnkibaa.Rds (Rds rds_stab reads_ext cell_ext)
open Go.Proofs.Ytkklppjimnkibaa.Pred (Is is_stab)
open It (get_lt)
open Ints (i64s In64)
set_option linter.unusedVariables false
set_option linter.unusedSimpArgs false
set_option maxRecDepth 10000
attribute [local go_sem ↓] load_pg store_pg eq_pg3
attribute [local go_sem] one_int pc3 run_load_pg run_store_pg midLoad_eq rowLoad_eq rowStore_eq blk_alloc_at blk_alloc_old blk_drew blk_drewN blk_set_far blk_set_far' blk_grow setRow_alloc_at setRow_alloc_old setRow_drew setRow_drewN
theorem keeps_small (n : Int) (a : Option Addr) (len cap : Nat) (w : World) (h : n < 1 ∨ 30 < n ∨ 80 < len) (hl : len ≤ 9223372036854775807) :
    Calls Try.prog 4 #[.int .i64 n, .slice a len cap] w fun e w' => e = .returned (.bool true) ∧ Below w.heap.size w w' := by
  have CA := Lib.hid (fun X => awake_any X)
  by_cases h1 : n < 1
  · have d1 : decide (n < 1) = true := decide_eq_true h1
    clear h
    go_enter Try.func4, Try.ntmps4
    go_wp2_with fail
    refine (CA.out _).mono ?_
    rintro e w1 ⟨rfl, hb⟩
    go_wp2
    go_ret
    exact ⟨rfl, hb⟩
  · have d1 : decide (n < 1) = false := decide_eq_false h1
    by_cases h2 : 30 < n
    · have d2 : decide (30 < n) = true := decide_eq_true h2
      clear h
      go_enter Try.func4, Try.ntmps4
      go_wp2_with fail
      refine (CA.out _).mono ?_
      rintro e w1 ⟨rfl, hb⟩
      go_wp2
      go_ret
      exact ⟨rfl, hb⟩
    · have d2 : decide (30 < n) = false := decide_eq_false h2
      have d3 : decide ((80 : Int) < (len : Int)) = true := decide_eq_true (by omega)
      clear h
      go_enter Try.func4, Try.ntmps4
      go_wp2_with fail
      refine (CA.out _).mono ?_
      rintro e w1 ⟨rfl, hb⟩
      go_wp2
      go_ret
      exact ⟨rfl, hb⟩
/-- the law's state -/
structure Ks (w X : World) (lo : Lo) (pb gw n : Nat) (R : List Ent) (D1 : List Int) (last : PgM.Row) (al : Option Addr) (a85 : Option Addr) : Prop where
  aw : Aw w X lo pb gw n 3 R
  kp : Kp n R [3, 0, 0] D1 last
  ls : PgT X al last
  pg : PgT X a85 (allV 3)
theorem Ks.bel {w X Y : World} {lo : Lo} {pb gw n : Nat} {R : List Ent} {D1 : List Int} {last : PgM.Row} {al a85 : Option Addr} (h : Ks w X lo pb gw n R D1 last al a85) (hb : Below X.heap.size X Y) : Ks w Y lo pb gw n R D1 last al a85 :=
  ⟨h.aw.bel hb, h.kp, h.ls.bel hb, h.pg.bel hb⟩
theorem all3_ne : ∀ i, i < 85 → 1 ≤ i → at_ (allV 3) i ≠ [3, 0, 0] ∧ validB 3 (PgM.g (at_ (allV 3) i) 0) (PgM.g (at_ (allV 3) i) 1) (PgM.g (at_ (allV 3) i) 2) = true := by decide +kernel
theorem pl_blk {lo : Lo} {pb gw n d : Nat} {Bb : Nat → Prop} {R : List Ent} {X Y : World} (hp : Pl X lo Bb pb gw n d R) (hf : PF lo gw X Y) {k : Nat} {c : Array Value} (hk : blk X k = some (.cells c 35 (0, 0))) : blk Y k = some (.cells c 35 (0, 0)) := by
  obtain ⟨lb, lg, v, sl, o, wl, ⟨rs, hl, hq, hsl⟩, h2⟩ := hp
  exact PF.page hf hq hk
theorem kp_one' {n : Nat} {R : List Ent} {r b b' g : List Int} {last : PgM.Row} (hn : n = 1) (h : Kp n R r b last) (hg : g ≠ r) : codeR n R g = 6 ∧ putR n R g b' = R := by
  subst hn
  obtain ⟨e1, e2, e3, e4⟩ := kp_one h hg
  refine ⟨e3, ?_⟩
  unfold putR
  rw [e4, e2]
  rfl
theorem kp_step {n : Nat} {R : List Ent} {r b b' g : List Int} {last : PgM.Row} (hn : 2 ≤ n) (h : Kp n R r b last) (hg : g ≠ r) :
    Kp n (touchR (putR n R g b') g) r b (nextL n last g) ∧ codeR n R g = 0 ∧
    ((goneR n R g = [] ∧ nextL n last g = fl1 last g ∧ (fl1 last g).length ≤ n - 1) ∨
     (decide (g ∈ last) = false ∧ goneR n R g = [at_ last 0] ∧ nextL n last g = (fl1 last g).drop 1 ∧ (fl1 last g).length = n ∧ at_ (fl1 last g) 0 = at_ last 0 ∧ 1 ≤ last.length)) := by
  have hl := h.len
  by_cases hm : g ∈ last
  · obtain ⟨h1, h2, h3, h4, -⟩ := h.had (b' := b') hg hm
    have hle := h1.len
    rw [h4] at hle
    exact ⟨h1, h3, .inl ⟨h2, h4, by omega⟩⟩
  · obtain ⟨h1, h2, h3, h4, h5, -⟩ := h.new (b' := b') hn hg hm
    by_cases hlt : last.length + 1 < n
    · rw [if_pos hlt] at h2 h5
      exact ⟨h1, h3, .inl ⟨h2, by rw [h5, h4], by rw [h4]; simp; omega⟩⟩
    · rw [if_neg hlt] at h2 h5
      have hlen1 : 1 ≤ last.length := by omega
      refine ⟨h1, h3, .inr ⟨decide_eq_false hm, h2, ?_, by rw [h4]; simp; omega, ?_, hlen1⟩⟩
      · rw [h5, h4, List.drop_append_of_le_length hlen1]
      · rw [h4]
        unfold at_
        rw [List.getD_eq_getElem?_getD, List.getElem?_append_left (by omega), ← List.getD_eq_getElem?_getD]
def fT (last : PgM.Row) (g : List Int) (j : Nat) : PgM.Row := (last.take j).filter (fun x => decide (x ≠ g))
theorem fT_succ {last : PgM.Row} {g : List Int} {j : Nat} (hj : j < last.length) : fT last g (j + 1) = fT last g j ++ (if at_ last j = g then [] else [at_ last j]) := by
  unfold fT
  rw [← List.take_append_getElem hj, List.filter_append, List.filter_cons, at_eq hj]
  congr 1
  by_cases e : last[j] = g
  · rw [if_pos e, if_neg (by simp [e])]; rfl
  · rw [if_neg e, if_pos (decide_eq_true e)]; rfl
theorem fT_all (last : PgM.Row) (g : List Int) : fT last g last.length ++ [g] = fl1 last g := by unfold fT fl1; rw [List.take_length]
theorem fT_len (last : PgM.Row) (g : List Int) (j : Nat) : (fT last g j).length ≤ last.length := by
  unfold fT
  have := List.length_filter_le (fun x => decide (x ≠ g)) (last.take j)
  rw [List.length_take] at this
  omega
theorem fT_zero (last : PgM.Row) (g : List Int) : fT last g 0 = [] := by simp [fT]
theorem kp_in {n : Nat} {R : List Ent} {r b : List Int} {last : PgM.Row} (h : Kp n R r b last) {j : Nat} (hj : j < last.length) : hasR R (at_ last j) = true := by
  have hm : at_ last j ∈ last := by rw [at_eq hj]; exact List.getElem_mem _
  rw [h.has (fun e => h.nr (e ▸ hm)), decide_eq_true hm]
set_option maxHeartbeats 8000000 in
theorem keeps_gen (n : Nat) (a : Option Addr) (len cap : Nat) (zs : List Int) (w : World) (hn : 1 ≤ n ∧ n ≤ 30) (hl : len ≤ 80) (hz : ∀ z ∈ zs, In64 z) (hzl : zs.length = len) (hr : Reads w 1 a len (i64s zs)) :
    Calls Try.prog 4 #[.int .i64 n, .slice a len cap] w fun e w' => e = .returned (.bool true) ∧ Below w.heap.size w w' := by
  have CA := Lib.hid (fun X => awake_any X)
  obtain ⟨D1, e1⟩ : ∃ D, dataL 1 = D := ⟨_, rfl⟩
  have CD1 := Lib.hid (fun X => data_any 1 (by decide) X)
  have B1 := Lib.hid (data_B 1)
  rw [e1] at CD1 B1
  have HR := Lib.hid hr
  have HZ := Lib.hid hz
  have HZL := Lib.hid hzl
  have d1 : decide ((n : Int) < 1) = false := decide_eq_false (by omega)
  have d2 : decide (30 < (n : Int)) = false := decide_eq_false (by omega)
  have d3 : decide ((80 : Int) < (len : Int)) = false := decide_eq_false (by omega)
  have CP := Lib.hid (fun X => rpages_own 3 X)
  have hn1 := hn.1
  have hn2 := hn.2
  clear hr hz e1 hzl hn
  go_enter Try.func4, Try.ntmps4
  go_wp2_with fail
  refine (CD1.out _).mono ?_
  rintro e X0 ⟨⟨v, rfl, hv⟩, hb⟩
  obtain ⟨a0, c0, rfl, hB, -⟩ := bin_own hv
  have L0 := hb
  have HB := Lib.hid hB
  clear hb hv hB d1 d2 d3
  go_wp2_with fail
  refine (new_ok n 3 ⟨a0, 0, none⟩ c0 D1 X0 ⟨hn1, by omega⟩ (by omega) HB.out).mono ?_
  rintro e X1 ⟨⟨pb, gw, rfl, hP⟩, hb⟩
  have L1 := L0.trans (hb.mono L0.size)
  have HA1 : Hid (Aw w X1 ⟨X0.heap.size, 0, 0⟩ pb gw n 3 [([3, 0, 0], D1)]) := Lib.hid ⟨L1, hP.mono (fun k _ e => by have := L0.size; omega), L0.size⟩
  clear hb hP HB L0 L1
  go_wp2_with fail
  refine (CP.out _).mono ?_
  rintro e X2 ⟨⟨v, rfl, hv⟩, hb⟩
  obtain ⟨g85, c85, rfl, h85, -⟩ := owns_pos hv (by rw [len3']; decide)
  have HK2 : Hid (Ks w X2 ⟨X0.heap.size, 0, 0⟩ pb gw n [([3, 0, 0], D1)] D1 [] none (some ⟨g85, 0, none⟩)) := Lib.hid ⟨HA1.out.bel hb, kp_start hn1 _ _, PgT.nil _, pgt_own hv (three_all 3)⟩
  obtain ⟨lo, elo⟩ : ∃ l : Lo, (⟨X0.heap.size, 0, 0⟩ : Lo) = l := ⟨_, rfl⟩
  rw [elo] at HK2
  clear hb hv HA1 elo CP
  rw [len3'] at *
  go_wp2_with fail
  go_loopw [8, 9] (fun v i X => ∃ (k : Nat) (R : List Ent) (last : PgM.Row) (al : Option Addr) (cl : Nat), k ≤ len ∧ i = .int .i64 k ∧ v = .slice al last.length cl ∧ Hid (Ks w X lo pb gw n R D1 last al (some ⟨g85, 0, none⟩))) (fun _ i _ => len - (intOf i).toNat)
  case atStart => exact ⟨0, _, [], none, 0, Nat.zero_le _, rfl, rfl, HK2⟩
  case round =>
    obtain ⟨k, R, last, al, cl, hk, rfl, rfl, HK⟩ := hrel
    rename World => X
    clear HK2
    by_cases hlt : k < len
    · have hlt' : (k : Int) < (len : Int) := by omega
      obtain ⟨ab, ao, rfl, hab, hac⟩ := Ints.cell_of HR.out (k := k) (by rw [HZL.out]; omega) (by omega)
      have cx := hac k (by rw [HZL.out]; omega)
      have dx := (HK.out.aw.low.cell (p := ⟨ab, ao + k, none⟩) hab).trans cx
      have ix := Ints.getD_in HZ.out k
      obtain ⟨x, hx⟩ : ∃ x, zs.getD k 0 = x := ⟨_, rfl⟩
      rw [hx] at dx ix
      obtain ⟨r, hr84, hr⟩ : ∃ r : Nat, r < 84 ∧ x % 84 = (r : Int) := ⟨(x % 84).toNat, by omega, by omega⟩
      have CR : Hid (Calls Try.prog 11 #[.int .i64 x, .int .i64 84] X fun e w' => e = .returned (.int .i64 r) ∧ X = w') := Lib.hid (by
        have := round_any x 84 X ix.1 ix.2 (by decide) (by decide)
        rwa [hr] at this)
      obtain ⟨b9, o9, cur, e9, hgb, hgs, hpc⟩ := HK.out.pg.at (i := 1 + r) (by rw [len3']; omega)
      injection e9 with e9
      injection e9 with e9 e9'
      subst e9 e9'
      obtain ⟨x0, x1, x2, hg⟩ := HK.out.pg.three (i := 1 + r) (by rw [len3']; omega)
      obtain ⟨hg1, hg2⟩ := all3_ne (1 + r) (by omega) (by omega)
      rw [hg] at hpc hg1 hg2
      rw [Nat.zero_add] at hpc hgs
      have hg2' : validB 3 x0 x1 x2 = true := hg2
      have hpc' : Mid.piece cur ((1 + r) * 3) 3 = #[.int .i64 x0, .int .i64 x1, .int .i64 x2] := hpc
      clear hac hx hr hg hg2 hpc cx
      have hr85 : (1 : Int) + (r : Int) < 85 := by omega
      go_wp2_with fail
      refine CR.out.mono ?_
      rintro e _ ⟨rfl, rfl⟩
      have hX1 : Below X.heap.size X (X.alloc (.cells #[.int .i64 x0, .int .i64 x1, .int .i64 x2] 35)) := (Below.refl _ _).alloc (Nat.le_refl _) _
      have HK1 := Lib.hid (HK.out.bel hX1)
      obtain ⟨had, ehad⟩ : ∃ h, decide ([x0, x1, x2] ∈ last) = h := ⟨_, rfl⟩
      have CH := Lib.hid (has_any x0 x1 x2 _ HK1.out.aw.p)
      rw [HK.out.kp.has hg1, ehad] at CH
      have EH := Lib.hid ehad
      have HG1 := Lib.hid hg1
      clear ehad hg1
      go_wp2_with fail
      clear hpc' hgs hgb dx CR
      refine CH.out.mono ?_
      rintro e X2 ⟨rfl, hb2⟩
      have bG2 : blk X2 X.heap.size = some (.cells #[.int .i64 x0, .int .i64 x1, .int .i64 x2] 35 (0, 0)) := (blk_below hb2 _ (by simp)).trans (blk_alloc_at _ _ _ rfl)
      have HK2 := Lib.hid (HK1.out.bel hb2)
      have hlX2 := Nat.lt_of_lt_of_le (blk_lt bG2) (Nat.le_refl _)
      clear hb2 hX1 CH HK1 HK
      obtain ⟨gb, egb⟩ : ∃ g, X.heap.size = g := ⟨_, rfl⟩
      rw [egb] at bG2 hlX2 ⊢
      clear egb
      have hk80 : k ≤ 100000 := by omega
      have CDk := Lib.hid (fun X => data_any k hk80 X)
      go_upto_region 13 with (fail)
      refine PredT.region_of (W := X2) (0) (Nat.zero_le _) [4] [
          fun y9 => Below X2.heap.size X2 y9,
          fun y9 => Aw w y9 lo pb gw n 3 (putR n R [x0, x1, x2] (dataL k)) ∧ PF lo gw X2 y9] [
          PredT.At 0 (.pointer (some ⟨pb, 0, none⟩)),
          PredT.At 0 (.agg #[.int .i64 x0, .int .i64 x1, .int .i64 x2]),
          PredT.At 0 (.int .i64 ((k : Nat) : Int)),
          PredT.When 0 (fun u y9 => ∃ a9 c9, u = .slice (some ⟨a9, 0, none⟩) 144 c9 ∧ BIn y9 ⟨a9, 0, none⟩ (dataL k)),
          PredT.When 1 (fun u y9 => ∃ gv, u = .tuple #[gv, .int .i64 (codeR n R [x0, x1, x2])] ∧ GoneAt y9 gv (goneR n R [x0, x1, x2])),
          PredT.When 1 (fun u y9 => ∃ gv, u = .tuple #[gv, .int .i64 (codeR n R [x0, x1, x2])] ∧ GoneAt y9 gv (goneR n R [x0, x1, x2])),
          PredT.When 1 (fun u y9 => GoneAt y9 u (goneR n R [x0, x1, x2])),
          PredT.At 1 (.int .i64 (codeR n R [x0, x1, x2])),
          PredT.When 1 (fun u y9 => GoneAt y9 u (goneR n R [x0, x1, x2])),
          PredT.At 1 (.int .i64 (codeR n R [x0, x1, x2]))] (by kernel_rfl) (by kernel_rfl) (by kernel_rfl) (by decide) (by decide) ?_ ?_ ?_ ?_ ?_ ?_
      · exact ⟨PredT.at_stab _ _ _ _, PredT.at_stab _ _ _ _, PredT.at_stab _ _ _ _, PredT.when_stab _ _ _ (fun u y y' ⟨a9, c9, h1, h2⟩ hb => ⟨a9, c9, h1, h2.bel hb⟩), PredT.when_stab _ _ _ (fun u y y' ⟨gv, h1, h2⟩ hb => ⟨gv, h1, PoL.GoneAt.below h2 hb⟩), PredT.when_stab _ _ _ (fun u y y' ⟨gv, h1, h2⟩ hb => ⟨gv, h1, PoL.GoneAt.below h2 hb⟩), PredT.when_stab _ _ _ (fun u y y' h hb => PoL.GoneAt.below h hb), PredT.at_stab _ _ _ _, PredT.when_stab _ _ _ (fun u y y' h hb => PoL.GoneAt.below h hb), PredT.at_stab _ _ _ _, trivial⟩
      · intro q hq
        rcases List.mem_cons.1 hq with rfl | hq
        · exact fun y y' h hb => h.trans (hb.mono h.size)
        rcases List.mem_cons.1 hq with rfl | hq
        · exact fun y y' h hb => ⟨h.1.bel hb, h.2.trans (PF.of_below hb (Pl.low h.1.p))⟩
        cases hq
      · exact Below.refl _ _
      · refine ⟨.inr ?_, .inr ?_, .inr ?_, .inr ?_, .inl rfl, .inr ?_, .inr ?_, .inr ?_, .inr ?_, .inr ?_, trivial⟩
        · intro b9 X ph hE hd hn hS hV hI hF
          have r5 : b9.tmps[5]?.getD undef = .pointer (some ⟨pb, 0, none⟩) := (hn 5 (by kernel_rfl)).trans rfl
          exact Pred.yields_run (v := .pointer (some ⟨pb, 0, none⟩)) (Pred.wanted_none rfl) (by go_simp) ⟨Below.refl _ _, rfl, Nat.zero_le _⟩
        · intro b9 X ph hE hd hn hS hV hI hF
          have r10 : b9.tmps[10]?.getD undef = .pointer (some ⟨gb, 0, none⟩) := (hn 10 (by kernel_rfl)).trans rfl
          have hp0 : ph = 0 := Nat.le_zero.1 (hF 0 4 rfl (Pred.waits_near (by kernel_rfl) (by kernel_rfl)))
          subst hp0
          have hb0 : (fun y9 => Below X2.heap.size X2 y9) X := hS
          have z := (blk_below hb0 _ (blk_lt bG2)).trans bG2
          exact Pred.yields_run (v := .agg #[.int .i64 x0, .int .i64 x1, .int .i64 x2]) (Pred.wanted_none rfl) (by go_simp) ⟨Below.refl _ _, rfl, Nat.zero_le _⟩
        · intro b9 X ph hE hd hn hS hV hI hF
          have r9 : b9.tmps[9]?.getD undef = .int .i64 ((k : Nat) : Int) := (hn 9 (by kernel_rfl)).trans rfl
          exact Pred.yields_run (v := .int .i64 ((k : Nat) : Int)) (Pred.wanted_none rfl) (by go_simp) ⟨Below.refl _ _, rfl, Nat.zero_le _⟩
        · intro b9 X ph hE hd hn hS hV hI hF
          obtain ⟨r65, j65⟩ : PredT.At 0 (.int .i64 ((k : Nat) : Int)) (b9.tmps[65]?.getD undef) X ph := hV 2 _ 65 rfl rfl (Pred.waits_near (by kernel_rfl) (by kernel_rfl))
          have hp0 : ph = 0 := Nat.le_zero.1 (hF 0 4 rfl (Pred.waits_near (by kernel_rfl) (by kernel_rfl)))
          subst hp0
          have hb0 : (fun y9 => Below X2.heap.size X2 y9) X := hS
          refine Pred.yields_call (f := 7) (args := #[.int .i64 ((k : Nat) : Int)]) (Pred.wanted_none rfl) (by go_simp) ?_
          refine (CDk.out X).mono ?_
          rintro e w9 ⟨⟨v9, rfl, hv9⟩, hb⟩
          obtain ⟨a9, c9, rfl, hB9, -⟩ := bin_own hv9
          exact ⟨_, rfl, hb, Nat.zero_le _, fun _ => ⟨_, _, rfl, hB9⟩⟩
        · intro b9 X ph hE hd hn hS hV hI hF
          obtain ⟨j67, r67⟩ : PredT.When 1 (fun u y9 => ∃ gv, u = .tuple #[gv, .int .i64 (codeR n R [x0, x1, x2])] ∧ GoneAt y9 gv (goneR n R [x0, x1, x2])) (b9.tmps[67]?.getD undef) X ph := hV 4 _ 67 rfl rfl (Pred.waits_near (by kernel_rfl) (by kernel_rfl))
          exact Pred.yields_run (v := b9.tmps[67]?.getD undef) (Pred.wanted_none rfl) (by go_simp) ⟨Below.refl _ _, j67, r67⟩
        · intro b9 X ph hE hd hn hS hV hI hF
          obtain ⟨j62, r62⟩ : PredT.When 1 (fun u y9 => ∃ gv, u = .tuple #[gv, .int .i64 (codeR n R [x0, x1, x2])] ∧ GoneAt y9 gv (goneR n R [x0, x1, x2])) (b9.tmps[62]?.getD undef) X ph := hV 5 _ 62 rfl rfl (Pred.waits_near (by kernel_rfl) (by kernel_rfl))
          have hp1 : ph = 1 := by have := PredT.sel_le hS; simp at this; omega
          subst hp1
          obtain ⟨gv, hgv, hG⟩ := r62 rfl
          clear r62
          exact Pred.yields_run (v := gv) (Pred.wanted_none rfl) (by clear hS hI hV hn hG; go_simp) ⟨Below.refl _ _, Nat.le_refl _, fun _ => hG⟩
        · intro b9 X ph hE hd hn hS hV hI hF
          obtain ⟨j62, r62⟩ : PredT.When 1 (fun u y9 => ∃ gv, u = .tuple #[gv, .int .i64 (codeR n R [x0, x1, x2])] ∧ GoneAt y9 gv (goneR n R [x0, x1, x2])) (b9.tmps[62]?.getD undef) X ph := hV 5 _ 62 rfl rfl (Pred.waits_near (by kernel_rfl) (by kernel_rfl))
          have hp1 : ph = 1 := by have := PredT.sel_le hS; simp at this; omega
          subst hp1
          obtain ⟨gv, hgv, hG⟩ := r62 rfl
          clear r62
          exact Pred.yields_run (v := .int .i64 (codeR n R [x0, x1, x2])) (Pred.wanted_none rfl) (by clear hS hI hV hn hG; go_simp) ⟨Below.refl _ _, rfl, Nat.le_refl _⟩
        · intro b9 X ph hE hd hn hS hV hI hF
          obtain ⟨j68, r68⟩ : PredT.When 1 (fun u y9 => GoneAt y9 u (goneR n R [x0, x1, x2])) (b9.tmps[68]?.getD undef) X ph := hV 6 _ 68 rfl rfl (Pred.waits_near (by kernel_rfl) (by kernel_rfl))
          exact Pred.yields_run (v := b9.tmps[68]?.getD undef) (Pred.wanted_none rfl) (by go_simp) ⟨Below.refl _ _, j68, r68⟩
        · intro b9 X ph hE hd hn hS hV hI hF
          obtain ⟨r69, j69⟩ : PredT.At 1 (.int .i64 (codeR n R [x0, x1, x2])) (b9.tmps[69]?.getD undef) X ph := hV 7 _ 69 rfl rfl (Pred.waits_near (by kernel_rfl) (by kernel_rfl))
          exact Pred.yields_run (v := .int .i64 (codeR n R [x0, x1, x2])) (Pred.wanted_none rfl) (by go_simp) ⟨Below.refl _ _, rfl, (by omega)⟩
      · refine ⟨?_, trivial⟩
        · refine ⟨_, rfl, fun k hk => (by cases hk), fun b9 X hE hd hn hS hV hI => ?_⟩
          obtain ⟨r63, j63⟩ : PredT.At 0 (.pointer (some ⟨pb, 0, none⟩)) (b9.tmps[63]?.getD undef) X 0 := hV 0 _ 63 rfl rfl (Pred.waits_near (by kernel_rfl) (by kernel_rfl))
          obtain ⟨r64, j64⟩ : PredT.At 0 (.agg #[.int .i64 x0, .int .i64 x1, .int .i64 x2]) (b9.tmps[64]?.getD undef) X 0 := hV 1 _ 64 rfl rfl (Pred.waits_near (by kernel_rfl) (by kernel_rfl))
          obtain ⟨j66, r66⟩ : PredT.When 0 (fun u y9 => ∃ a9 c9, u = .slice (some ⟨a9, 0, none⟩) 144 c9 ∧ BIn y9 ⟨a9, 0, none⟩ (dataL k)) (b9.tmps[66]?.getD undef) X 0 := hV 3 _ 66 rfl rfl (Pred.waits_near (by kernel_rfl) (by kernel_rfl))
          replace hS : (fun y9 => Below X2.heap.size X2 y9) X := hS
          have hb1 : (fun y9 => Below X2.heap.size X2 y9) X := hS
          obtain ⟨a9, c9, hv9, hB9⟩ := r66 rfl
          clear r66
          refine Pred.yields_call (f := 12) (args := #[.pointer (some ⟨pb, 0, none⟩), .agg #[.int .i64 x0, .int .i64 x1, .int .i64 x2], .slice (some ⟨a9, 0, none⟩) 144 c9]) (Pred.wanted_none rfl) (by clear hS hb1 hI hV hn hB9; go_simp) ?_
          refine (aw_put x0 x1 x2 ⟨a9, 0, none⟩ c9 (dataL k) X (HK2.out.aw.bel hb1) hg2' hB9).mono ?_
          rintro e w9 ⟨gv, rfl, h1, h2, h3⟩
          exact ⟨_, rfl, (PF.below h3).mono (Nat.zero_le _), ⟨h2, (PF.of_below hb1 (Pl.low HK2.out.aw.p)).trans h3⟩, by omega, fun _ => ⟨gv, rfl, h1⟩⟩
      intro v X hE hS hv
      replace hS : (fun y9 => Aw w y9 lo pb gw n 3 (putR n R [x0, x1, x2] (dataL k)) ∧ PF lo gw X2 y9) X := hS
      have e0 : v 0 = .pointer (some ⟨pb, 0, none⟩) := (hv 0 _ 63 rfl rfl).1
      have e1 : v 1 = .agg #[.int .i64 x0, .int .i64 x1, .int .i64 x2] := (hv 1 _ 64 rfl rfl).1
      have e2 : v 2 = .int .i64 ((k : Nat) : Int) := (hv 2 _ 65 rfl rfl).1
      generalize hg3 : v 3 = vv3
      generalize hg4 : v 4 = vv4
      generalize hg5 : v 5 = vv5
      generalize hg6 : v 6 = vv6
      have e7 : v 7 = .int .i64 (codeR n R [x0, x1, x2]) := (hv 7 _ 69 rfl rfl).1
      have HGV : GoneAt X (v 8) (goneR n R [x0, x1, x2]) := (hv 8 _ 12 rfl rfl).2 rfl
      generalize hg8 : v 8 = vv8 at HGV
      have e9 : v 9 = .int .i64 (codeR n R [x0, x1, x2]) := (hv 9 _ 13 rfl rfl).1
      simp only [Pred.putsF_cons, Pred.putsF_nil, Nat.zero_add, Nat.reduceAdd, e0, e1, e2, hg3, hg4, hg5, hg6, e7, hg8, e9, Act.put, List.setIfInBounds_toArray, List.set_cons_zero, List.set_cons_succ]
      clear e0 e1 e2 hg3 hg4 hg5 hg6 e7 hg8 e9 hv
      obtain ⟨hA, hf⟩ := hS
      rename World => X3
      have ls3 := (HK2.out.ls).pf HK2.out.aw.p hf
      have pg3 := (HK2.out.pg).pf HK2.out.aw.p hf
      have bG3 := pl_blk HK2.out.aw.p hf bG2
      have HKP := Lib.hid HK2.out.kp
      have HA3 := Lib.hid hA
      have HG3 := Lib.hid HGV
      have HL3 := Lib.hid ls3
      have HP3 := Lib.hid pg3
      clear hA hf hE HGV ls3 pg3 bG2 HK2 hlX2
      by_cases hone : n = 1
      · obtain ⟨ec, ep⟩ := kp_one' (b' := dataL k) hone HKP.out HG1.out
        rw [ep] at HA3
        rw [ec]
        have hone' : (n : Int) = 1 := by omega
        have HK3 : Hid (Ks w X3 lo pb gw n R D1 last al (some ⟨g85, 0, none⟩)) := Lib.hid ⟨HA3.out, HKP.out, HL3.out, HP3.out⟩
        clear ec ep
        go_wp2_with fail
        refine ⟨⟨k + 1, R, last, al, cl, by omega, by go_num, rfl, HK3⟩, by simp [intOf]; omega⟩
      have hone' : ¬ ((n : Int) = 1) := by omega
      obtain ⟨kp2, ec, hcase⟩ := kp_step (b' := dataL k) (by omega : 2 ≤ n) HKP.out HG1.out
      rw [ec]
      have HKP2 := Lib.hid kp2
      have hll : last.length ≤ 30 := by have := HKP.out.len; omega
      clear kp2 ec
      go_upto_region 17 with (fail)
      go_cut [88] from 44 to 178 (fun c Y => c = .bool false ∧ Y = X3)
      case first =>
        rcases hcase with ⟨eg, en, hle⟩ | ⟨ehf, eg, en, hle, eat, hl1⟩
        · rw [eg] at HG3
          obtain ⟨adg, cg, rfl, -⟩ := PoL.GoneAt.at HG3.out
          clear EH HG3
          cases had
          · go_wp2_with fail
            go_meet
            exact ⟨rfl, rfl⟩
          · go_wp2_with fail
            go_meet
            exact ⟨rfl, rfl⟩
        · have hf := EH.out
          rw [ehf] at hf
          subst hf
          rw [eg] at HG3
          obtain ⟨adg, cg, rfl, -⟩ := PoL.GoneAt.at HG3.out
          clear EH HG3
          go_wp2_with fail
          go_meet
          exact ⟨rfl, rfl⟩
      case rest =>
      obtain ⟨rfl, hX⟩ := hcut
      subst hX
      have HCASE := Lib.hid hcase
      clear hcase
      go_wp2_with fail
      refine (aw_touch x0 x1 x2 _ HA3.out).mono ?_
      rintro e X4 ⟨rfl, hA, hf⟩
      have HL4 := Lib.hid (HL3.out.pf HA3.out.p hf)
      have HP4 := Lib.hid (HP3.out.pf HA3.out.p hf)
      have HG4 := Lib.hid (PoL.GoneAt.pf HG3.out HA3.out.p hf)
      have bG4 := pl_blk HA3.out.p hf bG3
      have HA4 := Lib.hid hA
      clear hA hf HL3 HP3 bG3 HA3 HG3
      go_upto_block 2 with (fail)
      go_cut [14, 15] from 44 to 178 (fun v i Y => Hid (Y.ownsRow X4.heap.size 35 3 v (fT last [x0, x1, x2] last.length).length (fl (fT last [x0, x1, x2] last.length))) ∧ Hid (Below X4.heap.size X4 Y))
      case first =>
        go_wp2_with fail
        go_loopw [14, 15] (fun v i Y => ∃ j : Nat, j ≤ last.length ∧ i = .int .i64 j ∧ Hid (Y.ownsRow X4.heap.size 35 3 v (fT last [x0, x1, x2] j).length (fl (fT last [x0, x1, x2] j))) ∧ Hid (Below X4.heap.size X4 Y)) (fun _ i _ => last.length - (intOf i).toNat)
        case atStart => exact ⟨0, Nat.zero_le _, rfl, Lib.hid (by rw [fT_zero]; exact World.ownsRow_nil _ _ _ _), Lib.hid (Below.refl _ _)⟩
        case round =>
          obtain ⟨j, hj, rfl, HO, HB⟩ := hrel
          rename World => Y
          by_cases hjl : j < last.length
          · have hjl' : (j : Int) < (last.length : Int) := by omega
            obtain ⟨b9, o9, cur, e9, hgb, hgs, hpc⟩ := (HL4.out.bel HB.out).at hjl
            subst e9
            obtain ⟨y0, y1, y2, hy⟩ := HL4.out.three hjl
            have FS := Lib.hid (fT_succ (g := [x0, x1, x2]) hjl)
            have FL := Lib.hid (fT_len last [x0, x1, x2] j)
            rw [hy] at hpc FS
            have hpc' : Mid.piece cur (o9 + j * 3) 3 = #[.int .i64 y0, .int .i64 y1, .int .i64 y2] := hpc
            have bGY := (blk_below HB.out _ (blk_lt bG4)).trans bG4
            clear hpc hy
            by_cases hyg : [y0, y1, y2] = [x0, x1, x2]
            · have he : eqL [y0, y1, y2] [x0, x1, x2] = true := decide_eq_true hyg
              rw [if_pos hyg, List.append_nil] at FS
              clear hyg
              go_upto_region 24 with (fail)
              have gL := blk_regrown hgb
              have gB := blk_regrown bGY
              (refine wp_region_quiet_below (by kernel_rfl) (by kernel_rfl) ?_; (repeat (go_big_quiet_step ((fail)))); refine wpQuiet_nil ?_)
              intro U hU
              have KU := Rd.below_of_regrown hU
              have HBU := Lib.hid (Rd.below_step HB.out KU)
              have HOU := Lib.hid (PgC.owns_below HO.out KU)
              have hgU := (blk_below KU _ (blk_lt hgb)).trans hgb
              clear hU KU gL gB bGY HB HO hgb
              go_wp2_with fail
              refine ⟨⟨j + 1, by omega, by go_num, by rw [FS.out]; exact HOU, HBU⟩, by simp [intOf]; omega⟩
            · have he : eqL [y0, y1, y2] [x0, x1, x2] = false := decide_eq_false hyg
              rw [if_neg hyg] at FS
              clear hyg
              go_upto_region 24 with (fail)
              have gL := blk_regrown hgb
              have gB := blk_regrown bGY
              (refine wp_region_quiet_below (by kernel_rfl) (by kernel_rfl) ?_; (repeat (go_big_quiet_step ((fail)))); refine wpQuiet_nil ?_)
              intro U hU
              have KU := Rd.below_of_regrown hU
              have HBU := Lib.hid (Rd.below_step HB.out KU)
              have HOU := Lib.hid (PgC.owns_below HO.out KU)
              have hgU := (blk_below KU _ (blk_lt hgb)).trans hgb
              clear hU KU gL gB bGY HB HO hgb
              have hsU := HBU.out.size
              have FL' := FL.out
              go_wp2_with (at_builtin; refine app_pg rfl (.tmp 104) (.tmp 109) rfl X4.heap.size _ _ _ rfl (HOU.out.alloc _) U.heap.size 1 [y0, y1, y2] rfl rfl (blk_alloc_at _ _ _ rfl) (by omega) (by simp; omega) ?_; intro v4 w4 ho4 hg4)
              have L4 : Below X4.heap.size X4 w4 := (HBU.out.alloc hsU _).grown hg4 (by simp; omega) (fun j hj => (HOU.out.lt j hj).1)
              refine ⟨⟨j + 1, by omega, by go_num, Lib.hid (by rw [FS.out]; simpa using ho4), Lib.hid L4⟩, by simp [intOf]; omega⟩
          · have ej : j = last.length := by omega
            subst ej
            clear HL4 bG4
            go_wp2_with fail
            go_meet
            exact ⟨HO, HB⟩
      case rest =>
      obtain ⟨HO, HB⟩ := hcut
      rename_i v14 i15
      have FA := Lib.hid (fT_all last [x0, x1, x2])
      have FL' := fT_len last [x0, x1, x2] last.length
      have bGY := (blk_below HB.out _ (blk_lt bG4)).trans bG4
      have hsY := HB.out.size
      obtain ⟨rw_, erw⟩ : ∃ x, fT last [x0, x1, x2] last.length = x := ⟨_, rfl⟩
      rw [erw] at HO FA FL'
      have h3r : ∀ v ∈ rw_, v.length = 3 := erw ▸ fun v hv => HL4.out.pg.1 v (List.mem_of_mem_take (List.mem_filter.1 hv).1)
      have H3R := Lib.hid h3r
      clear bG4 erw h3r
      go_upto_if 119 with (at_builtin; refine app_pg rfl (.tmp 111) (.tmp 113) rfl X4.heap.size _ _ _ rfl (HO.out.alloc _) wc.heap.size 1 [x0, x1, x2] rfl rfl (blk_alloc_at _ _ _ rfl) (by omega) (by simp; omega) ?_; intro v5 w5 ho5 hg5; obtain ⟨a5, c5, rfl, hc5, -⟩ := Rd.owns_val ho5)
      have B5 : Below X4.heap.size X4 w5 := (HB.out.alloc hsY _).grown hg5 (by simp; omega) (fun j hj => (HO.out.lt j hj).1)
      have h35 : ∀ v ∈ rw_ ++ [[x0, x1, x2]], v.length = 3 := three_app H3R.out (fun v hv => by rw [List.mem_singleton.1 hv]; rfl)
      have own5 := ho5
      rw [FA.out] at h35 own5
      have hlf := congrArg List.length FA.out
      rw [List.length_append, List.length_singleton] at hlf
      obtain ⟨L1, eL1⟩ : ∃ x, fl1 last [x0, x1, x2] = x := ⟨_, rfl⟩
      rw [eL1] at h35 own5 hlf HCASE
      obtain ⟨m5, em5⟩ : ∃ m, rw_.length = m := ⟨_, rfl⟩
      rw [em5] at hlf hc5 own5
      have HO5 := Lib.hid own5
      have H35 := Lib.hid h35
      have HA5 := Lib.hid (HA4.out.bel B5)
      have HP5 := Lib.hid (HP4.out.bel B5)
      have HG5 := Lib.hid (PoL.GoneAt.below HG4.out B5)
      have hL1 : L1.length ≤ 31 := by omega
      obtain ⟨R2, eR2⟩ : ∃ x, touchR (putR n R [x0, x1, x2] (dataL k)) [x0, x1, x2] = x := ⟨_, rfl⟩
      obtain ⟨L2, eL2⟩ : ∃ x, nextL n last [x0, x1, x2] = x := ⟨_, rfl⟩
      rw [eR2] at HA5 HKP2
      rw [eL2] at HKP2 HCASE
      try rw [em5]
      have HLF := Lib.hid hlf
      clear B5 h35 own5 ho5 hg5 eL1 eR2 eL2 HO HB FA FL' bGY hsY HA4 HP4 HG4 H3R HL4 hlf em5
      go_cut [8] from 44 to 178 (fun v Y => ∃ (aL : Option Addr) (cL : Nat), v = .slice aL L2.length cL ∧ Hid (PgT Y aL L2) ∧ Hid (Below w5.heap.size w5 Y))
      case first =>
        rcases HCASE.out with ⟨eg, en, hle⟩ | ⟨ehf, eg, en, hle, eat, hl1⟩
        · have hc27 : ¬ ((n : Int) - 1 < (m5 : Int) + 1) := by have := HLF.out; omega
          have HEN := Lib.hid en
          clear eg en hle HCASE
          go_wp2_with fail
          go_meet
          exact ⟨a5, c5, by rw [HEN.out, ← HLF.out], Lib.hid (by rw [HEN.out]; exact pgt_own HO5.out H35.out), Lib.hid (Below.refl _ _)⟩
        · have hf := EH.out
          rw [ehf] at hf
          subst hf
          have hg5 := HG5.out
          rw [eg] at hg5
          rcases hg5 with ⟨e, _⟩ | ⟨z, g9, e1, e2, rfl, e4⟩
          · cases e
          obtain ⟨z0, z1, z2, rfl⟩ := len3 e2
          injection e1 with e1
          rw [e1] at eat
          have hpt := pgt_own HO5.out H35.out
          obtain ⟨b9, o9, cur, e9, hgb, hgs, hpc⟩ := hpt.at (i := 0) (by have := HLF.out; omega)
          subst e9
          rw [eat] at hpc
          rw [Nat.zero_mul, Nat.add_zero] at hpc hgs
          have hpc' : Mid.piece cur o9 3 = #[.int .i64 z0, .int .i64 z1, .int .i64 z2] := hpc
          have he : eqL [z0, z1, z2] [z0, z1, z2] = true := by simp [eqL]
          have hc27 : (n : Int) - 1 < (m5 : Int) + 1 := by have := HLF.out; omega
          have HEN := Lib.hid en
          have HLE := Lib.hid hle
          have HPT := Lib.hid hpt
          have bA : blk w5 g9 = some (.cells #[.int .i64 z0, .int .i64 z1, .int .i64 z2] 35 (0, 0)) := e4
          clear eg en hle HCASE EH HG5 e2 e4 eat hpc e1 hpt HO5
          go_upto_region 28 with (fail)
          have gA := blk_regrown bA
          have gB := blk_regrown hgb
          (refine wp_region_quiet_below (by kernel_rfl) (by kernel_rfl) ?_; (repeat (go_big_quiet_step ((fail)))); refine wpQuiet_nil ?_)
          intro U hU
          have KU := Rd.below_of_regrown hU
          have hlow : (m5 : Int) + 1 - (n : Int) = 0 := by have := HLF.out; have := HLE.out; omega
          have hm0 : (0 : Int) ≤ (m5 : Int) := by omega
          clear hU gA gB bA hgb he hpc'
          go_wp2_with fail
          go_meet
          exact ⟨some ⟨b9, o9 + 3, none⟩, c5 - 1, by rw [HEN.out, List.length_drop, ← HLF.out, Nat.add_sub_cancel], Lib.hid (by rw [HEN.out]; exact (HPT.out.bel KU).drop 1), Lib.hid KU⟩
      case rest =>
      obtain ⟨aL, c5, rfl, HLS, HB5⟩ := hcut
      have HA6 := Lib.hid (HA5.out.bel HB5.out)
      have HP6 := Lib.hid (HP5.out.bel HB5.out)
      clear HA5 HP5 HB5 HG5 HO5 HCASE H35 EH
      obtain ⟨w6, e6⟩ : ∃ z : World, z = wc := ⟨_, rfl⟩
      subst e6
      go_upto_block 4 with (fail)
      go_cut [16] from 44 to 178 (fun i Y => Hid (Below w6.heap.size w6 Y))
      case first =>
        have hL2 : L2.length ≤ 31 := by have := HKP2.out.len; omega
        clear HP6
        go_wp2_with fail
        go_loopw [16] (fun i Z => ∃ j : Nat, j ≤ L2.length ∧ i = .int .i64 j ∧ Hid (Below w6.heap.size w6 Z)) (fun i _ => L2.length - (intOf i).toNat)
        case atStart => exact ⟨0, Nat.zero_le _, rfl, Lib.hid (Below.refl _ _)⟩
        case round =>
          obtain ⟨j, hj, rfl, HB⟩ := hrel
          rename World => Z
          have HA7 := Lib.hid (HA6.out.bel HB.out)
          by_cases hjl : j < L2.length
          · have hjl' : (j : Int) < (L2.length : Int) := by omega
            obtain ⟨b9, o9, cur, e9, hgb, hgs, hpc⟩ := (HLS.out.bel HB.out).at hjl
            subst e9
            obtain ⟨y0, y1, y2, hy⟩ := HLS.out.three hjl
            have CH := has_any y0 y1 y2 Z HA7.out.p
            have hi := kp_in HKP2.out hjl
            rw [hy] at hpc hi
            rw [hi] at CH
            have HCH := Lib.hid CH
            have hpc' : Mid.piece cur (o9 + j * 3) 3 = #[.int .i64 y0, .int .i64 y1, .int .i64 y2] := hpc
            clear hpc hy CH hi
            go_wp2_with fail
            refine HCH.out.mono ?_
            rintro e Z1 ⟨rfl, hb⟩
            have HB1 := Lib.hid (Rd.below_step HB.out hb)
            clear hb hgb hgs hpc' HCH HB HA7
            go_wp2_with fail
            refine ⟨⟨j + 1, by omega, by go_num, HB1⟩, by simp [intOf]; omega⟩
          · have ej : j = L2.length := by omega
            subst ej
            clear HA7
            go_wp2_with fail
            go_meet
            exact HB
      case rest =>
      have HB := hcut
      have hL2 : L2.length ≤ 31 := by have := HKP2.out.len; omega
      obtain ⟨Z, eZ⟩ : ∃ z : World, z = wc := ⟨_, rfl⟩
      subst eZ
      have HLS6 := Lib.hid (HLS.out.bel HB.out)
      have HP7 := Lib.hid (HP6.out.bel HB.out)
      have HA7 := Lib.hid (HA6.out.bel HB.out)
      have CG := get_any 3 0 0 Z HA7.out.p
      rw [HKP2.out.root.1, HKP2.out.root.2] at CG
      have HCG := Lib.hid CG
      have HRL := Lib.hid HKP2.out.rlen
      clear HLS HP6 HA6 HB CG
      go_wp2_with fail
      refine HCG.out.mono ?_
      rintro e Z2 ⟨⟨u, rfl, hu, -⟩, hb⟩
      obtain ⟨a7, c7, rfl, -, -⟩ := bin_own (hu (by first | trivial | rfl))
      have HU7 := Lib.hid (hu (by first | trivial | rfl))
      have HK7 : Hid (Ks w Z2 lo pb gw n R2 D1 L2 aL (some ⟨g85, 0, none⟩)) := Lib.hid (Ks.bel ⟨HA7.out, HKP2.out, HLS6.out, HP7.out⟩ hb)
      clear hb hu HCG HLS6 HP7 HA7 HKP2
      go_upto_region 37 with (fail)
      refine Pred.region_vals (Pred.Of [
          Is (.pointer (some ⟨pb, 0, none⟩)),
          Is (.int .i64 ((L2.length : Int) + 1)),
          Is (.slice aL L2.length c5),
          Is (.int .i64 (L2.length : Int)),
          Is (.int .i64 ((L2.length : Int) + 1)),
          Is (.bool false),
          Is (.bool false),
          Is (.bool true),
          Is (.bool false),
          Is (.bool false),
          Is (.bool false),
          Is (.slice (some ⟨a7, 0, none⟩) 144 c7),
          Is (.string (bytesOf D1)),
          Rds (D1),
          Is (.string (bytesOf D1)),
          Is (.bool false),
          Is (.bool false)]) (by kernel_rfl) (by kernel_rfl) (by kernel_rfl) (Pred.of_stab ?_) ?_ ?_
      · exact ⟨is_stab _, is_stab _, is_stab _, is_stab _, is_stab _, is_stab _, is_stab _, is_stab _, is_stab _, is_stab _, is_stab _, is_stab _, is_stab _, rds_stab _, is_stab _, is_stab _, is_stab _, trivial⟩
      · refine ⟨?_, ?_, ?_, ?_, ?_, ?_, ?_, ?_, ?_, ?_, ?_, ?_, ?_, ?_, ?_, ?_, ?_, trivial⟩
        · intro b X hE hd hn hV
          have r5 : b.tmps[5]?.getD undef = .pointer (some ⟨pb, 0, none⟩) := (hn 5 (by kernel_rfl)).trans rfl
          exact Pred.yields_run (v := .pointer (some ⟨pb, 0, none⟩)) (Pred.wanted_none rfl) (by go_simp) ⟨Pred.ext_refl _ _, rfl⟩
        · intro b X hE hd hn hV
          have r162 : b.tmps[162]?.getD undef = .pointer (some ⟨pb, 0, none⟩) := hV 0 _ 162 rfl rfl (Pred.waits_near (by kernel_rfl) (by kernel_rfl))
          refine Pred.yields_call (f := 22) (args := #[.pointer (some ⟨pb, 0, none⟩)]) (Pred.wanted_none rfl) (by go_simp) ?_
          refine (PoB.len_any X (HK7.out.aw.bel hE).p).mono ?_
          rintro e w9 ⟨he, hb⟩
          exact ⟨_, by rw [he, HRL.out]; push_cast; rfl, Pred.ext_below hb hE.size, rfl⟩
        · intro b X hE hd hn hV
          have r8 : b.tmps[8]?.getD undef = .slice aL L2.length c5 := (hn 8 (by kernel_rfl)).trans rfl
          exact Pred.yields_run (v := .slice aL L2.length c5) (Pred.wanted_none rfl) (by go_simp) ⟨Pred.ext_refl _ _, rfl⟩
        · intro b X hE hd hn hV
          have r164 : b.tmps[164]?.getD undef = .slice aL L2.length c5 := hV 2 _ 164 rfl rfl (Pred.waits_near (by kernel_rfl) (by kernel_rfl))
          exact Pred.yields_run (v := .int .i64 (L2.length : Int)) (Pred.wanted_none rfl) (by go_simp) ⟨Pred.ext_refl _ _, rfl⟩
        · intro b X hE hd hn hV
          have r165 : b.tmps[165]?.getD undef = .int .i64 (L2.length : Int) := hV 3 _ 165 rfl rfl (Pred.waits_near (by kernel_rfl) (by kernel_rfl))
          have h9 := IntWalk.i64_in ((L2.length : Int) + 1) (by omega)
          exact Pred.yields_run (v := .int .i64 ((L2.length : Int) + 1)) (Pred.wanted_none rfl) (by go_simp) ⟨Pred.ext_refl _ _, rfl⟩
        · intro b X hE hd hn hV
          have r163 : b.tmps[163]?.getD undef = .int .i64 ((L2.length : Int) + 1) := hV 1 _ 163 rfl rfl (Pred.waits_near (by kernel_rfl) (by kernel_rfl))
          have r166 : b.tmps[166]?.getD undef = .int .i64 ((L2.length : Int) + 1) := hV 4 _ 166 rfl rfl (Pred.waits_near (by kernel_rfl) (by kernel_rfl))
          exact Pred.yields_run (v := .bool false) (Pred.wanted_none rfl) (by go_simp) ⟨Pred.ext_refl _ _, rfl⟩
        · intro b X hE hd hn hV
          have r167 : b.tmps[167]?.getD undef = .bool false := hV 5 _ 167 rfl rfl (Pred.waits_near (by kernel_rfl) (by kernel_rfl))
          exact Pred.yields_run (v := .bool false) (Pred.wanted_none rfl) (by go_simp) ⟨Pred.ext_refl _ _, rfl⟩
        · intro b X hE hd hn hV
          have r18 : b.tmps[18]?.getD undef = .bool true := (hn 18 (by kernel_rfl)).trans rfl
          have r168 : b.tmps[168]?.getD undef = .bool false := hV 6 _ 168 rfl rfl (Pred.waits_near (by kernel_rfl) (by kernel_rfl))
          exact Pred.yields_run (v := .bool true) ((Pred.wanted_at (g := 6) (d := 168) (f := false) rfl rfl r168).trans rfl) (by go_simp) ⟨Pred.ext_refl _ _, rfl⟩
        · intro b X hE hd hn hV
          have r169 : b.tmps[169]?.getD undef = .bool true := hV 7 _ 169 rfl rfl (Pred.waits_near (by kernel_rfl) (by kernel_rfl))
          have r168 : b.tmps[168]?.getD undef = .bool false := hV 6 _ 168 rfl rfl (Pred.waits_near (by kernel_rfl) (by kernel_rfl))
          exact Pred.yields_run (v := .bool false) ((Pred.wanted_at (g := 6) (d := 168) (f := false) rfl rfl r168).trans rfl) (by go_simp) ⟨Pred.ext_refl _ _, rfl⟩
        · intro b X hE hd hn hV
          have r168 : b.tmps[168]?.getD undef = .bool false := hV 6 _ 168 rfl rfl (Pred.waits_near (by kernel_rfl) (by kernel_rfl))
          have r170 : b.tmps[170]?.getD undef = .bool false := hV 8 _ 170 rfl rfl (Pred.waits_near (by kernel_rfl) (by kernel_rfl))
          exact Pred.yields_run (v := .bool false) (Pred.wanted_none rfl) (by go_simp) ⟨Pred.ext_refl _ _, rfl⟩
        · intro b X hE hd hn hV
          have r171 : b.tmps[171]?.getD undef = .bool false := hV 9 _ 171 rfl rfl (Pred.waits_near (by kernel_rfl) (by kernel_rfl))
          exact Pred.yields_run (v := .bool false) (Pred.wanted_none rfl) (by go_simp) ⟨Pred.ext_refl _ _, rfl⟩
        · intro b X hE hd hn hV
          have r17 : b.tmps[17]?.getD undef = .slice (some ⟨a7, 0, none⟩) 144 c7 := (hn 17 (by kernel_rfl)).trans rfl
          have r172 : b.tmps[172]?.getD undef = .bool false := hV 10 _ 172 rfl rfl (Pred.waits_near (by kernel_rfl) (by kernel_rfl))
          exact Pred.yields_run (v := .slice (some ⟨a7, 0, none⟩) 144 c7) ((Pred.wanted_at (g := 10) (d := 172) (f := false) rfl rfl r172).trans rfl) (by go_simp) ⟨Pred.ext_refl _ _, rfl⟩
        · intro b X hE hd hn hV
          have r173 : b.tmps[173]?.getD undef = .slice (some ⟨a7, 0, none⟩) 144 c7 := hV 11 _ 173 rfl rfl (Pred.waits_near (by kernel_rfl) (by kernel_rfl))
          have r172 : b.tmps[172]?.getD undef = .bool false := hV 10 _ 172 rfl rfl (Pred.waits_near (by kernel_rfl) (by kernel_rfl))
          have hc9 := str_own (owns_same HU7.out hE) B1.out
          exact Pred.yields_run (v := .string (bytesOf D1)) ((Pred.wanted_at (g := 10) (d := 172) (f := false) rfl rfl r172).trans rfl) (by go_simp) ⟨Pred.ext_refl _ _, rfl⟩
        · intro b X hE hd hn hV
          have r172 : b.tmps[172]?.getD undef = .bool false := hV 10 _ 172 rfl rfl (Pred.waits_near (by kernel_rfl) (by kernel_rfl))
          refine Pred.yields_call (f := 7) (args := #[.int .i64 1]) ((Pred.wanted_at (g := 10) (d := 172) (f := false) rfl rfl r172).trans rfl) (by go_simp) ?_
          refine (CD1.out X).mono ?_
          rintro e w9 ⟨⟨v9, rfl, hv9⟩, hb⟩
          obtain ⟨a9, c9, rfl, hB9, -⟩ := bin_own hv9
          exact ⟨_, rfl, Pred.ext_below hb hE.size, _, _, _, rfl, hB9.reads⟩
        · intro b X hE hd hn hV
          obtain ⟨ga175, na175, ca175, r175, hr175⟩ : Rds (D1) (b.tmps[175]?.getD undef) X := hV 13 _ 175 rfl rfl (Pred.waits_near (by kernel_rfl) (by kernel_rfl))
          have r172 : b.tmps[172]?.getD undef = .bool false := hV 10 _ 172 rfl rfl (Pred.waits_near (by kernel_rfl) (by kernel_rfl))
          have hc9 : (convert 22 9 (.slice ga175 na175 ca175)).run Try.prog X = .ok (.string (bytesOf D1)) X := Rd.conv_reads Try.underlying22 Try.underlying5 Try.underlying9 hr175 B1.out
          exact Pred.yields_run (v := .string (bytesOf D1)) ((Pred.wanted_at (g := 10) (d := 172) (f := false) rfl rfl r172).trans rfl) (by go_simp) ⟨Pred.ext_refl _ _, rfl⟩
        · intro b X hE hd hn hV
          have r174 : b.tmps[174]?.getD undef = .string (bytesOf D1) := hV 12 _ 174 rfl rfl (Pred.waits_near (by kernel_rfl) (by kernel_rfl))
          have r176 : b.tmps[176]?.getD undef = .string (bytesOf D1) := hV 14 _ 176 rfl rfl (Pred.waits_near (by kernel_rfl) (by kernel_rfl))
          have r172 : b.tmps[172]?.getD undef = .bool false := hV 10 _ 172 rfl rfl (Pred.waits_near (by kernel_rfl) (by kernel_rfl))
          exact Pred.yields_run (v := .bool false) ((Pred.wanted_at (g := 10) (d := 172) (f := false) rfl rfl r172).trans rfl) (by go_simp) ⟨Pred.ext_refl _ _, rfl⟩
        · intro b X hE hd hn hV
          have r172 : b.tmps[172]?.getD undef = .bool false := hV 10 _ 172 rfl rfl (Pred.waits_near (by kernel_rfl) (by kernel_rfl))
          have r177 : b.tmps[177]?.getD undef = .bool false := hV 15 _ 177 rfl rfl (Pred.waits_near (by kernel_rfl) (by kernel_rfl))
          exact Pred.yields_run (v := .bool false) (Pred.wanted_none rfl) (by go_simp) ⟨Pred.ext_refl _ _, rfl⟩
      intro v X hE hv
      have e0 : v 0 = .pointer (some ⟨pb, 0, none⟩) := hv 0 _ 162 rfl rfl
      have e1 : v 1 = .int .i64 ((L2.length : Int) + 1) := hv 1 _ 163 rfl rfl
      have e2 : v 2 = .slice aL L2.length c5 := hv 2 _ 164 rfl rfl
      have e3 : v 3 = .int .i64 (L2.length : Int) := hv 3 _ 165 rfl rfl
      have e4 : v 4 = .int .i64 ((L2.length : Int) + 1) := hv 4 _ 166 rfl rfl
      have e5 : v 5 = .bool false := hv 5 _ 167 rfl rfl
      have e6 : v 6 = .bool false := hv 6 _ 168 rfl rfl
      have e7 : v 7 = .bool true := hv 7 _ 169 rfl rfl
      have e8 : v 8 = .bool false := hv 8 _ 170 rfl rfl
      have e9 : v 9 = .bool false := hv 9 _ 171 rfl rfl
      have e10 : v 10 = .bool false := hv 10 _ 172 rfl rfl
      have e11 : v 11 = .slice (some ⟨a7, 0, none⟩) 144 c7 := hv 11 _ 173 rfl rfl
      have e12 : v 12 = .string (bytesOf D1) := hv 12 _ 174 rfl rfl
      obtain ⟨ga13, na13, ca13, e13, hr13⟩ : Rds (D1) (v 13) X := hv 13 _ 175 rfl rfl
      have e14 : v 14 = .string (bytesOf D1) := hv 14 _ 176 rfl rfl
      have e15 : v 15 = .bool false := hv 15 _ 177 rfl rfl
      have e16 : v 16 = .bool false := hv 16 _ 178 rfl rfl
      simp only [Pred.putsF_cons, Pred.putsF_nil, Nat.zero_add, Nat.reduceAdd, e0, e1, e2, e3, e4, e5, e6, e7, e8, e9, e10, e11, e12, e13, e14, e15, e16, Act.put, List.setIfInBounds_toArray, List.set_cons_zero, List.set_cons_succ]
      clear e0 e1 e2 e3 e4 e5 e6 e7 e8 e9 e10 e11 e12 e13 e14 e15 e16 hv
      go_wp2_with fail
      refine ⟨⟨k + 1, R2, L2, aL, c5, by omega, by go_num, rfl, Lib.hid (HK7.out.bel hE)⟩, by simp [intOf]; omega⟩
    · obtain rfl : k = len := by omega
      have L9 := HK.out.aw.low
      clear HK
      go_wp2_with fail
      refine (CA.out _).mono ?_
      rintro e w9 ⟨rfl, hb⟩
      have L10 := Rd.below_step L9 hb
      clear hb
      go_wp2
      go_ret
      exact ⟨rfl, L10⟩
end Go.Proofs.Ytkklppjimnkibaa.PoR
