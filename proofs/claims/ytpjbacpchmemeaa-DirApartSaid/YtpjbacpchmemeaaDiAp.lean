/-
  DirApart.
-/
import Derived.Test.YtpjbacpchmemeaaDiAq
import Derived.BigGuard
import Derived.Test.YtpjbacpchmemeaaPredS
namespace Go.Proofs.Ytpjbacpchmemeaa.DiAp
open Go.RowKit Go.Shelf Rd Go.Proofs.Ytpjbacpchmemeaa.Row Mid PgM PgA PgB PgC PgN DiM DiA DiC DiD DiE DiF DiJ DiK DiL DiN DiO DiQ DiU DiV DiW DiX DiY DiZ0 DiZ DiOr DiAq OctA OctB
open Go.Proofs.Ytpjbacpchmemeaa.DiM (at_ at_get ce ce_len ce_app ce_one ce_ones ce_at)
open Go.Proofs.Ytpjbacpchmemeaa.DiI (cutV cut_all cut_take)
open Go.Proofs.Ytpjbacpchmemeaa.Pred (Is is_stab Stab)
set_option linter.unusedVariables false
set_option linter.unusedSimpArgs false
set_option maxRecDepth 10000
attribute [local go_sem ↓] load_pg store_pg load_en store_en alloc_en
attribute [local go_sem] one_int pc3 piece_en DiI.fold_en fold_two fold_sz run_store_pg run_alloc_en run_store_en rowStore_eq blk_alloc_at blk_alloc_old blk_drew blk_drewN blk_set_far blk_set_far' blk_grow setRow_alloc_at setRow_alloc_old setRow_drew setRow_drewN En.c_size En.c_all all6
theorem ld_pbox {W : World} {b : Nat} {p : En} (h : blk W b = some (.cells p.c 39 (0, 0))) : (loadRow 25 (.pointer (some ⟨b, 0, none⟩))).run Try.prog W = .ok (pg p.L p.X p.Y) W := by
  rw [run_load_pg, midLoad_eq, h]
  rfl
theorem below_set {B g i : Nat} {w X : World} {v : Value} (h : Below B w X) (hg : B ≤ g) : Below B w (X.setCell ⟨g, i, none⟩ v) :=
  ⟨h.os, h.tape, h.output, by have := h.size; simpa using this, fun k hk => by
    have h1 : k ≠ g := by omega
    exact (heap_setCell_other X ⟨g, i, none⟩ k v (by first | exact h1 | exact fun e => h1 e.symm)).trans (h.block k hk)⟩
theorem rnd (k n : Int) (w : World) (h1 : -9223372036854775808 ≤ k ∧ k ≤ 9223372036854775807) (hn : 1 ≤ n) (hn2 : n ≤ 1000000) :
    Calls Try.prog 23 #[.int .i64 k, .int .i64 n] w fun e w' => (∃ m : Nat, e = .returned (.int .i64 m) ∧ (m : Int) < n) ∧ w = w' := by
  refine (Alk.round_any k n w h1.1 h1.2 hn (by omega)).mono ?_
  rintro e w' ⟨he, hw⟩
  have p1 := Int.emod_nonneg k (show n ≠ 0 by omega)
  have p2 := Int.emod_lt_of_pos k (show (0 : Int) < n by omega)
  exact ⟨⟨(k % n).toNat, by rw [he]; congr 2; omega, by omega⟩, hw⟩
set_option maxHeartbeats 8000000 in
theorem apart_gen (a0 a1 a2 a3 a4 a5 : Int) (w : World) (h0 : -9223372036854775808 ≤ a0 ∧ a0 ≤ 9223372036854775807) (h1 : -9223372036854775808 ≤ a1 ∧ a1 ≤ 9223372036854775807) (h2 : -9223372036854775808 ≤ a2 ∧ a2 ≤ 9223372036854775807)
    (h3 : -9223372036854775808 ≤ a3 ∧ a3 ≤ 9223372036854775807) (h4 : -9223372036854775808 ≤ a4 ∧ a4 ≤ 9223372036854775807) (h5 : -9223372036854775808 ≤ a5 ∧ a5 ≤ 9223372036854775807) :
    Calls Try.prog 5 #[.int .i64 a0, .int .i64 a1, .int .i64 a2, .int .i64 a3, .int .i64 a4, .int .i64 a5] w fun e w' => e = .returned (.bool true) ∧ Below w.heap.size w w' := by
  have R0 := Lib.hid (fun X => rnd a0 4 X h0 (by decide) (by decide))
  have R1 := Lib.hid (fun n X => rnd a1 n X h1)
  have R2 := Lib.hid (fun n X => rnd a2 n X h2)
  have R3 := Lib.hid (fun X => rnd a3 1000 X h3 (by decide) (by decide))
  have R4 := Lib.hid (fun X => rnd a4 300 X h4 (by decide) (by decide))
  have R5 := Lib.hid (fun X => rnd a5 20 X h5 (by decide) (by decide))
  clear h0 h1 h2 h3 h4 h5
  go_enter Try.func5, Try.ntmps5
  go_wp2_with fail
  refine (R0.out _).mono ?_
  rintro e w0 ⟨⟨d, rfl, hd⟩, rfl⟩
  have hd3 : d ≤ 3 := by omega
  go_wp2_with fail
  refine (rpages_any d _).mono ?_
  rintro e X1 ⟨⟨ap, cp, rfl, hcp, -, hpg⟩, hb⟩
  have L1 := hb
  have HP := Lib.hid hpg
  have hlens := all_lens d hd3
  obtain ⟨np, enp⟩ : ∃ n, (allV d).length = n := ⟨_, rfl⟩
  rw [enp] at hlens hcp ⊢
  have ENP := Lib.hid enp
  clear hb hpg enp
  rcases hlens with ⟨hnp, hd0⟩ | ⟨hnp, hnp2⟩
  · have hlt : ((np : Int)) < 2 := by omega
    go_wp2_with fail
    refine (awake_any _).mono ?_
    rintro e w9 ⟨rfl, hb⟩
    go_wp2
    go_ret
    exact ⟨rfl, Rd.below_step L1 hb⟩
  have hlt : ¬ ((np : Int)) < 2 := by omega
  go_wp2_with fail
  refine (R1.out _ _ (by omega) (by omega)).mono ?_
  rintro e w0 ⟨⟨i, rfl, hi⟩, rfl⟩
  have hi' : i < np := by omega
  go_wp2_with fail
  refine (R2.out _ _ (by omega) (by omega)).mono ?_
  rintro e w0 ⟨⟨o, rfl, ho⟩, rfl⟩
  have hne := other_ne (n := np) (i := i) (o := o) (by omega) hi' (by omega)
  have hkl := Nat.mod_lt (i + 1 + o) (show 0 < np by omega)
  have hrem : ((i : Int) + 1 + (o : Int)).tmod (np : Int) = (((i + 1 + o) % np : Nat) : Int) := by
    rw [Int.tmod_eq_emod_of_nonneg (by omega)]
    simp
  obtain ⟨k, ek⟩ : ∃ k, (i + 1 + o) % np = k := ⟨_, rfl⟩
  rw [ek] at hne hkl hrem
  clear ek R0 R1 R2
  go_wp2_with fail
  refine (R3.out _).mono ?_
  rintro e w0 ⟨⟨s0, rfl, hs0⟩, rfl⟩
  go_wp2_with fail
  refine (R4.out _).mono ?_
  rintro e w0 ⟨⟨m0, rfl, hm0⟩, rfl⟩
  go_wp2_with fail
  refine (R5.out _).mono ?_
  rintro e w0 ⟨⟨g0, rfl, hg0⟩, rfl⟩
  clear R3 R4 R5
  obtain ⟨x0, x1, x2, y0, y1, y2, ex, ey, hvx, hvy, hxy⟩ := two_pages hd3 (i := i) (k := k) (by rw [ENP.out]; exact hi') (by rw [ENP.out]; exact hkl) (fun e => hne e.symm)
  obtain ⟨s, es⟩ : ∃ s : Int, 2 + (s0 : Int) = s := ⟨_, rfl⟩
  obtain ⟨m, em⟩ : ∃ s : Int, 1 + (m0 : Int) = s := ⟨_, rfl⟩
  obtain ⟨gg, eg⟩ : ∃ s : Int, (g0 : Int) - 5 = s := ⟨_, rfl⟩
  have bs : 2 ≤ s ∧ s ≤ 1001 := by omega
  have bm : 1 ≤ m ∧ m ≤ 300 := by omega
  have bg : -5 ≤ gg ∧ gg ≤ 14 := by omega
  obtain ⟨bp, op, rfl⟩ : ∃ b o, ap = some ⟨b, o, none⟩ := by
    rcases HP.out.2 with h | ⟨b, o, e, _⟩
    · have := ENP.out
      rw [h] at this
      simp at this
      omega
    · exact ⟨b, o, e⟩
  obtain ⟨pa, ea⟩ : ∃ a : En, (⟨x0, x1, x2, s, m, 1⟩ : En) = a := ⟨_, rfl⟩
  have hac : (#[.int .i64 x0, .int .i64 x1, .int .i64 x2, .int .i64 s, .int .i64 m, .int .u32 1] : Array Value) = pa.c := by rw [← ea]; rfl
  have hld := ld_pgs HP.out (i := i) (by rw [ENP.out]; exact hi') ex
  go_upto_region 9 with (fail)
  refine Rd.name_world ?_
  intro X2 hX
  have hb : Below X1.heap.size X1 X2 := by
    rw [hX]
    exact (Below.refl _ _).alloc (Nat.le_refl _) _
  have HA2 : Hid (blk X2 X1.heap.size = some (.cells pa.c 39 (0, 0))) := Lib.hid (by rw [hX]; exact blk_alloc_at _ _ _ rfl)
  have HP2 := Lib.hid (HP.out.below (B := 0) hb)
  have L2 := Rd.below_step L1 hb
  clear hX hb HP L1 hld hrem ho
  obtain ⟨qq, eq⟩ : ∃ q : Int, secV m = q := ⟨_, rfl⟩
  have bq := sec300 bm.1 bm.2
  rw [eq] at bq
  have CS := Lib.hid (fun X => rsectors_any m (by omega) X)
  rw [eq] at CS
  obtain ⟨t, et⟩ : ∃ t : Int, s + qq + gg = t := ⟨_, rfl⟩
  obtain ⟨pb, eb⟩ : ∃ a : En, (⟨y0, y1, y2, t, 20, 2⟩ : En) = a := ⟨_, rfl⟩
  have hbc : (#[.int .i64 y0, .int .i64 y1, .int .i64 y2, .int .i64 t, .int .i64 20, .int .u32 2] : Array Value) = pb.c := by rw [← eb]; rfl
  have hkl' : (k : Int) < (np : Int) := by omega
  have ew1 : IntKind.i64.wrap (s + qq) = s + qq := IntWalk.i64_in _ (by omega)
  have ew2 : IntKind.i64.wrap t = t := IntWalk.i64_in _ (by omega)
  refine PredS.region_vals (W := X2) [⟨11, 12, 39, En.z.c, pb.c⟩] (PredS.Of [
      Is (.slice (some ⟨bp, op, none⟩) np cp),
      Is (.int .i64 (k : Int)),
      Is (.pointer (some ⟨bp, op + k * 3, none⟩)),
      Is (.agg #[.int .i64 y0, .int .i64 y1, .int .i64 y2]),
      Is (.int .i64 s),
      Is (.int .i64 m),
      Is (.int .i64 qq),
      Is (.int .i64 (s + qq)),
      Is (.int .i64 gg),
      Is (.int .i64 t),
      Is (.agg pb.c),
      Is undef,
      Is undef]) (by kernel_rfl) (by kernel_rfl) (by kernel_rfl) (by kernel_rfl) (PredS.of_stab ?_) ?_ ?_ ?_
  · exact ⟨PredS.is_stab _, PredS.is_stab _, PredS.is_stab _, PredS.is_stab _, PredS.is_stab _, PredS.is_stab _, PredS.is_stab _, PredS.is_stab _, PredS.is_stab _, PredS.is_stab _, PredS.is_stab _, PredS.is_stab _, PredS.is_stab _, trivial⟩
  · refine ⟨.inr ?_, .inr ?_, .inr ?_, .inr ?_, .inr ?_, .inr ?_, .inr ?_, .inr ?_, .inr ?_, .inr ?_, .inr ?_, .inl rfl, .inl rfl, trivial⟩
    · intro b X hE hd hn hV
      have r13 : b.tmps[13]?.getD undef = .slice (some ⟨bp, op, none⟩) np cp := (hn 13 (by kernel_rfl)).trans rfl
      exact Pred.yields_run (v := .slice (some ⟨bp, op, none⟩) np cp) (Pred.wanted_none rfl) (by go_simp) ⟨PredS.ext_refl _ _ _, rfl⟩
    · intro b X hE hd hn hV
      have r15 : b.tmps[15]?.getD undef = .int .i64 (k : Int) := (hn 15 (by kernel_rfl)).trans rfl
      exact Pred.yields_run (v := .int .i64 (k : Int)) (Pred.wanted_none rfl) (by go_simp) ⟨PredS.ext_refl _ _ _, rfl⟩
    · intro b X hE hd hn hV
      have r68 : b.tmps[68]?.getD undef = .slice (some ⟨bp, op, none⟩) np cp := hV 0 _ 68 rfl rfl rfl (Pred.waits_near (by kernel_rfl) (by kernel_rfl))
      have r69 : b.tmps[69]?.getD undef = .int .i64 (k : Int) := hV 1 _ 69 rfl rfl rfl (Pred.waits_near (by kernel_rfl) (by kernel_rfl))
      exact Pred.yields_run (v := .pointer (some ⟨bp, op + k * 3, none⟩)) (Pred.wanted_none rfl) (by go_simp) ⟨PredS.ext_refl _ _ _, rfl⟩
    · intro b X hE hd hn hV
      have r70 : b.tmps[70]?.getD undef = .pointer (some ⟨bp, op + k * 3, none⟩) := hV 2 _ 70 rfl rfl rfl (Pred.waits_near (by kernel_rfl) (by kernel_rfl))
      have q := ld_pgs (HP2.out.below (B := 0) hE) (i := k) (by rw [ENP.out]; exact hkl) ey
      exact Pred.yields_run (v := .agg #[.int .i64 y0, .int .i64 y1, .int .i64 y2]) (Pred.wanted_none rfl) (by go_simp) ⟨PredS.ext_refl _ _ _, rfl⟩
    · intro b X hE hd hn hV
      have r16 : b.tmps[16]?.getD undef = .int .i64 s := (hn 16 (by kernel_rfl)).trans rfl
      exact Pred.yields_run (v := .int .i64 s) (Pred.wanted_none rfl) (by go_simp) ⟨PredS.ext_refl _ _ _, rfl⟩
    · intro b X hE hd hn hV
      have r17 : b.tmps[17]?.getD undef = .int .i64 m := (hn 17 (by kernel_rfl)).trans rfl
      exact Pred.yields_run (v := .int .i64 m) (Pred.wanted_none rfl) (by go_simp) ⟨PredS.ext_refl _ _ _, rfl⟩
    · intro b X hE hd hn hV
      have r73 : b.tmps[73]?.getD undef = .int .i64 m := hV 5 _ 73 rfl rfl rfl (Pred.waits_near (by kernel_rfl) (by kernel_rfl))
      refine Pred.yields_call (f := 14) (args := #[.int .i64 m]) (Pred.wanted_none rfl) (by go_simp) ?_
      exact (CS.out X).mono fun e w2 ⟨he, hb⟩ => ⟨_, he, PredS.ext_below hb hE.size, rfl⟩
    · intro b X hE hd hn hV
      have r72 : b.tmps[72]?.getD undef = .int .i64 s := hV 4 _ 72 rfl rfl rfl (Pred.waits_near (by kernel_rfl) (by kernel_rfl))
      have r74 : b.tmps[74]?.getD undef = .int .i64 qq := hV 6 _ 74 rfl rfl rfl (Pred.waits_near (by kernel_rfl) (by kernel_rfl))
      exact Pred.yields_run (v := .int .i64 (s + qq)) (Pred.wanted_none rfl) (by go_simp) ⟨PredS.ext_refl _ _ _, rfl⟩
    · intro b X hE hd hn hV
      have r18 : b.tmps[18]?.getD undef = .int .i64 gg := (hn 18 (by kernel_rfl)).trans rfl
      exact Pred.yields_run (v := .int .i64 gg) (Pred.wanted_none rfl) (by go_simp) ⟨PredS.ext_refl _ _ _, rfl⟩
    · intro b X hE hd hn hV
      have r75 : b.tmps[75]?.getD undef = .int .i64 (s + qq) := hV 7 _ 75 rfl rfl rfl (Pred.waits_near (by kernel_rfl) (by kernel_rfl))
      have r76 : b.tmps[76]?.getD undef = .int .i64 gg := hV 8 _ 76 rfl rfl rfl (Pred.waits_near (by kernel_rfl) (by kernel_rfl))
      exact Pred.yields_run (v := .int .i64 t) (Pred.wanted_none rfl) (by go_simp) ⟨PredS.ext_refl _ _ _, rfl⟩
    · intro b X hE hd hn hV
      have r71 : b.tmps[71]?.getD undef = .agg #[.int .i64 y0, .int .i64 y1, .int .i64 y2] := hV 3 _ 71 rfl rfl rfl (Pred.waits_near (by kernel_rfl) (by kernel_rfl))
      have r77 : b.tmps[77]?.getD undef = .int .i64 t := hV 9 _ 77 rfl rfl rfl (Pred.waits_near (by kernel_rfl) (by kernel_rfl))
      exact Pred.yields_run (v := .agg pb.c) (Pred.wanted_none rfl) (by go_simp) ⟨PredS.ext_refl _ _ _, rfl⟩
  · refine ⟨?_, trivial⟩
    · refine ⟨_, 20, _, rfl, rfl, by simp, rfl, fun ρ w => by first | (go_simp; done) | (go_simp; rfl), rfl, rfl, Pred.waits_near (by kernel_rfl) (by kernel_rfl), fun b X g hE hn hV hp hg hb => ?_⟩
      have r78 : b.tmps[78]?.getD undef = .agg pb.c := hV 10 _ 78 rfl rfl rfl (Pred.waits_near (by kernel_rfl) (by kernel_rfl))
      simp only at hb
      exact PredS.yields_skip (Pred.wanted_none rfl) (by go_simp) rfl
  intro v X3 hE hv hL
  have e0 : v 0 = .slice (some ⟨bp, op, none⟩) np cp := hv 0 _ 68 rfl rfl rfl
  have e1 : v 1 = .int .i64 (k : Int) := hv 1 _ 69 rfl rfl rfl
  have e2 : v 2 = .pointer (some ⟨bp, op + k * 3, none⟩) := hv 2 _ 70 rfl rfl rfl
  have e3 : v 3 = .agg #[.int .i64 y0, .int .i64 y1, .int .i64 y2] := hv 3 _ 71 rfl rfl rfl
  have e4 : v 4 = .int .i64 s := hv 4 _ 72 rfl rfl rfl
  have e5 : v 5 = .int .i64 m := hv 5 _ 73 rfl rfl rfl
  have e6 : v 6 = .int .i64 qq := hv 6 _ 74 rfl rfl rfl
  have e7 : v 7 = .int .i64 (s + qq) := hv 7 _ 75 rfl rfl rfl
  have e8 : v 8 = .int .i64 gg := hv 8 _ 76 rfl rfl rfl
  have e9 : v 9 = .int .i64 t := hv 9 _ 77 rfl rfl rfl
  have e10 : v 10 = .agg pb.c := hv 10 _ 78 rfl rfl rfl
  obtain ⟨⟨g11, e11, o11, q11, n11⟩, -⟩ := hL
  replace q11 : blk X3 g11 = some (.cells pb.c 39 (0, 0)) := q11
  clear n11
  simp only [Pred.putsF_cons, Pred.putsF_nil, Nat.zero_add, Nat.reduceAdd, e0, e1, e2, e3, e4, e5, e6, e7, e8, e9, e10, e11, Act.put, List.setIfInBounds_toArray, List.set_cons_zero, List.set_cons_succ]
  clear e0 e1 e2 e3 e4 e5 e6 e7 e8 e9 e10 e11 hv
  go_upto_region 10 with (fail)
  have HP3 := Lib.hid (HP2.out.below (B := 0) hE)
  have HA3 := Lib.hid ((blk_below hE _ (blk_lt HA2.out)).trans HA2.out)
  have HB3 := Lib.hid q11
  have L3 := Rd.below_step L2 hE
  have c0 := pg_c0 HP3.out (by rw [ENP.out]; omega) (root_at d hd3)
  clear hE HP2 HA2 L2 q11 CS
  have hlA := ld_box HA3.out
  have hlB := ld_box HB3.out
  have hd4 : (0 : Int) ≤ (d : Int) ∧ (d : Int) ≤ 3 := by omega
  have mA : mayP d pa := by rw [← ea]; exact ⟨hvx, ⟨by show (2 : Int) ≤ s; omega, by show s < 2048; omega⟩, ⟨by show 1 ≤ m; omega, by show m ≤ 4096; omega⟩, by show s + secV m ≤ 2048; omega⟩
  have mB : 2 ≤ t → mayP d pb := fun h => by rw [← eb]; exact ⟨hvy, ⟨by show 2 ≤ t; omega, by show t < 2048; omega⟩, ⟨by simp, by simp⟩, by show t + secV 20 ≤ 2048; rw [sec20]; omega⟩
  have hP : pa.P ≠ pb.P := by rw [← ea, ← eb]; exact hxy
  have hfar : pa.S + secV pa.N ≤ pb.S ∨ pb.S + secV pb.N ≤ pa.S ↔ s + qq ≤ t ∨ t + 1 ≤ s := by
    rw [← ea, ← eb]
    show s + secV m ≤ t ∨ t + secV 20 ≤ s ↔ _
    rw [eq, sec20]
  have hBab : RB [pa, pb] := by
    intro p hp
    simp at hp
    rcases hp with rfl | rfl
    · rw [← ea]; exact ⟨by simp, by simp⟩
    · rw [← eb]; exact ⟨by simp, by simp⟩
  by_cases hg0 : (0 : Int) ≤ gg
  · have ht2 : 2 ≤ t := by omega
    have mB := mB ht2
    have hfar := hfar.2 (.inl (by omega))
    have hlt2 : ¬ t < 2 := by omega
    go_wp2_with fail
    refine (new_ok (pair_yes hd4 mA mB hP hfar) _ _ _ (rd_two _ _ _) hBab (by simp)).mono ?_
    rintro e X4 ⟨⟨b1, rfl, hD⟩, hb⟩
    have hx : Below X3.heap.size X3 X4 := Rd.below_step (Rd.below_alloc (Below.refl _ _) _) hb
    have HD4 := Lib.hid hD
    have HA4 := Lib.hid ((blk_below hx _ (blk_lt HA3.out)).trans HA3.out)
    have HB4 := Lib.hid ((blk_below hx _ (blk_lt HB3.out)).trans HB3.out)
    have L4 := L3.trans (hx.mono L3.size)
    clear hD hb hx HA3 HB3 L3 hlA hlB
    have cB : X4.cell? ⟨g11, 3, none⟩ = some (.int .i64 t) := by rw [blk_cell HB4.out, ← eb]; rfl
    have hlA := ld_box HA4.out
    go_upto_region 20 with (fail)
    refine Rd.name_world ?_
    intro X5 hX
    have hx : Below X4.heap.size X4 X5 := by
      rw [hX]
      exact (Below.refl _ _).alloc (Nat.le_refl _) _
    have bC5 : blk X5 X4.heap.size = some (.cells pa.c 39 (0, 0)) := by rw [hX]; exact blk_alloc_at _ _ _ rfl
    have hx5 := hx
    clear hX hx cB hlA
    have cC : X5.cell? ⟨X4.heap.size, 3, none⟩ = some (.int .i64 s) := by rw [blk_cell bC5, ← ea]; rfl
    have fC : X5.frozen? ⟨X4.heap.size, 3, none⟩ = false := blk_frozen bC5 _
    go_upto_region 21 with (fail)
    refine Rd.name_world ?_
    intro X6 hX
    obtain ⟨pc, ec⟩ : ∃ a : En, (⟨x0, x1, x2, s + 200, m, 1⟩ : En) = a := ⟨_, rfl⟩
    have bC6 : blk X6 X4.heap.size = some (.cells pc.c 39 (0, 0)) := by
      rw [hX, blk_set _ _ _ _ _ _ bC5, ← ea, ← ec]
      rfl
    have hx : Below X4.heap.size X4 X6 := by
      rw [hX]
      exact below_set hx5 (Nat.le_refl _)
    have HD6 := Lib.hid (HD4.out.below hx)
    have HB6 := Lib.hid ((blk_below hx _ (blk_lt HB4.out)).trans HB4.out)
    have L6 := Rd.below_step L4 hx
    clear hX hx hx5 HD4 HA4 HB4 L4 cC fC bC5
    have hlC := ld_box bC6
    have mC : mayP d pc := by rw [← ec]; exact ⟨hvx, ⟨by show (2 : Int) ≤ s + 200; omega, by show s + 200 < 2048; omega⟩, ⟨by show 1 ≤ m; omega, by show m ≤ 4096; omega⟩, by show s + 200 + secV m ≤ 2048; omega⟩
    have hPc : pc.P ≠ pb.P := by rw [← ec, ← eb]; exact hxy
    have hfc : pc.S + secV pc.N ≤ pb.S ∨ pb.S + secV pb.N ≤ pc.S := by
      rw [← ec, ← eb]
      show s + 200 + secV m ≤ t ∨ t + secV 20 ≤ s + 200
      rw [sec20]
      omega
    have hBc : RB [pc] := by
      intro p hp
      simp at hp
      rw [hp, ← ec]
      exact ⟨by simp, by simp⟩
    have hw1 := (pair_with (d := d) (q := pc) (u := pa) (v := pb) (srt_perm d [pa, pb]) (by rw [← ea, ← ec]; rfl) hPc).trans (pair_yes hd4 mC mB hPc hfc)
    go_wp2_with fail
    refine (with_ok hw1 (HD6.out.below ((Below.refl _ _).alloc (Nat.le_refl _) _)) _ _ (rd_one _ _) hBc (by rw [srt_len]; simp)).mono ?_
    rintro e X7 ⟨⟨b2, rfl, hD⟩, hb⟩
    have hx : Below X6.heap.size X6 X7 := Rd.below_step (Rd.below_alloc (Below.refl _ _) _) hb
    have HE7 := Lib.hid hD
    have HD7 := Lib.hid (HD6.out.below hx)
    have HB7 := Lib.hid ((blk_below hx _ (blk_lt HB6.out)).trans HB6.out)
    have L7 := Rd.below_step L6 hx
    clear hD hb hx HD6 HB6 L6 bC6 hlC hw1
    have hlp := ld_pbox HB7.out
    rw [← eb] at hlp
    obtain ⟨mn, emn⟩ : ∃ z : Int, min m 20 = z := ⟨_, rfl⟩
    obtain ⟨pe, ee⟩ : ∃ a : En, (⟨y0, y1, y2, s, mn, 3⟩ : En) = a := ⟨_, rfl⟩
    have hec : (#[.int .i64 y0, .int .i64 y1, .int .i64 y2, .int .i64 s, .int .i64 mn, .int .u32 3] : Array Value) = pe.c := by rw [← ee]; rfl
    have bmn : 1 ≤ mn ∧ mn ≤ 20 := by omega
    have smn : secV mn = 1 := by rw [← emn]; exact sec_min bm.1
    go_wp2_with fail
    have mE : mayP d pe := by rw [← ee]; exact ⟨hvy, ⟨by show (2 : Int) ≤ s; omega, by show s < 2048; omega⟩, ⟨by show 1 ≤ mn; omega, by show mn ≤ 4096; omega⟩, by show s + secV mn ≤ 2048; omega⟩
    have hPe : pe.P ≠ pc.P := by rw [← ee, ← ec]; exact fun e => hxy e.symm
    have hfe : pe.S + secV pe.N ≤ pc.S ∨ pc.S + secV pc.N ≤ pe.S := by
      rw [← ee, ← ec]
      show s + secV mn ≤ s + 200 ∨ _
      rw [smn]
      omega
    have hBe : RB [pe] := by
      intro p hp
      simp at hp
      rw [hp, ← ee]
      exact ⟨by simp, by simp⟩
    have hw2 := (pair_with (d := d) (q := pe) (u := pb) (v := pc) (pair_swap d pc pb) (by rw [← ee, ← eb]; rfl) hPe).trans (pair_yes hd4 mE mC hPe hfe)
    refine (with_ok hw2 (HE7.out.below ((Below.refl _ _).alloc (Nat.le_refl _) _)) _ _ (rd_one _ _) hBe (by rw [srt_len]; simp)).mono ?_
    rintro e X8 ⟨⟨b3, rfl, hD⟩, hb⟩
    have hx : Below X7.heap.size X7 X8 := Rd.below_step (Rd.below_alloc (Below.refl _ _) _) hb
    have HF8 := Lib.hid hD
    have HD8 := Lib.hid (HD7.out.below hx)
    have L8 := Rd.below_step L7 hx
    clear hD hb hx HD7 HB7 HE7 L7 hlp hw2
    go_wp2_with fail
    refine (len_n HF8.out (n := 2) (pair_len _ _ _)).mono ?_
    rintro e X9 ⟨rfl, rfl⟩
    go_wp2_with fail
    refine (len_n HD8.out (n := 2) (pair_len _ _ _)).mono ?_
    rintro e X9 ⟨rfl, rfl⟩
    go_wp2_with fail
    refine (awake_any _).mono ?_
    rintro e w9 ⟨rfl, hb⟩
    go_wp2
    go_ret
    exact ⟨rfl, Rd.below_step L8 hb⟩
  · by_cases ht1 : t + 1 ≤ s
    · by_cases ht2 : 2 ≤ t
      · have mB := mB ht2
        have hfar := hfar.2 (.inr ht1)
        have hlt2 : ¬ t < 2 := by omega
        go_wp2_with fail
        refine (new_ok (pair_yes hd4 mA mB hP hfar) _ _ _ (rd_two _ _ _) hBab (by simp)).mono ?_
        rintro e X4 ⟨⟨b1, rfl, hD⟩, hb⟩
        have hx : Below X3.heap.size X3 X4 := Rd.below_step (Rd.below_alloc (Below.refl _ _) _) hb
        have HD4 := Lib.hid hD
        have HA4 := Lib.hid ((blk_below hx _ (blk_lt HA3.out)).trans HA3.out)
        have HB4 := Lib.hid ((blk_below hx _ (blk_lt HB3.out)).trans HB3.out)
        have L4 := L3.trans (hx.mono L3.size)
        clear hD hb hx HA3 HB3 L3 hlA hlB
        have cB : X4.cell? ⟨g11, 3, none⟩ = some (.int .i64 t) := by rw [blk_cell HB4.out, ← eb]; rfl
        have hlA := ld_box HA4.out
        go_upto_region 20 with (fail)
        refine Rd.name_world ?_
        intro X5 hX
        have hx : Below X4.heap.size X4 X5 := by
          rw [hX]
          exact (Below.refl _ _).alloc (Nat.le_refl _) _
        have bC5 : blk X5 X4.heap.size = some (.cells pa.c 39 (0, 0)) := by rw [hX]; exact blk_alloc_at _ _ _ rfl
        have hx5 := hx
        clear hX hx cB hlA
        have cC : X5.cell? ⟨X4.heap.size, 3, none⟩ = some (.int .i64 s) := by rw [blk_cell bC5, ← ea]; rfl
        have fC : X5.frozen? ⟨X4.heap.size, 3, none⟩ = false := blk_frozen bC5 _
        go_upto_region 21 with (fail)
        refine Rd.name_world ?_
        intro X6 hX
        obtain ⟨pc, ec⟩ : ∃ a : En, (⟨x0, x1, x2, s + 200, m, 1⟩ : En) = a := ⟨_, rfl⟩
        have bC6 : blk X6 X4.heap.size = some (.cells pc.c 39 (0, 0)) := by
          rw [hX, blk_set _ _ _ _ _ _ bC5, ← ea, ← ec]
          rfl
        have hx : Below X4.heap.size X4 X6 := by
          rw [hX]
          exact below_set hx5 (Nat.le_refl _)
        have HD6 := Lib.hid (HD4.out.below hx)
        have HB6 := Lib.hid ((blk_below hx _ (blk_lt HB4.out)).trans HB4.out)
        have L6 := Rd.below_step L4 hx
        clear hX hx hx5 HD4 HA4 HB4 L4 cC fC bC5
        have hlC := ld_box bC6
        have mC : mayP d pc := by rw [← ec]; exact ⟨hvx, ⟨by show (2 : Int) ≤ s + 200; omega, by show s + 200 < 2048; omega⟩, ⟨by show 1 ≤ m; omega, by show m ≤ 4096; omega⟩, by show s + 200 + secV m ≤ 2048; omega⟩
        have hPc : pc.P ≠ pb.P := by rw [← ec, ← eb]; exact hxy
        have hfc : pc.S + secV pc.N ≤ pb.S ∨ pb.S + secV pb.N ≤ pc.S := by
          rw [← ec, ← eb]
          show s + 200 + secV m ≤ t ∨ t + secV 20 ≤ s + 200
          rw [sec20]
          omega
        have hBc : RB [pc] := by
          intro p hp
          simp at hp
          rw [hp, ← ec]
          exact ⟨by simp, by simp⟩
        have hw1 := (pair_with (d := d) (q := pc) (u := pa) (v := pb) (srt_perm d [pa, pb]) (by rw [← ea, ← ec]; rfl) hPc).trans (pair_yes hd4 mC mB hPc hfc)
        go_wp2_with fail
        refine (with_ok hw1 (HD6.out.below ((Below.refl _ _).alloc (Nat.le_refl _) _)) _ _ (rd_one _ _) hBc (by rw [srt_len]; simp)).mono ?_
        rintro e X7 ⟨⟨b2, rfl, hD⟩, hb⟩
        have hx : Below X6.heap.size X6 X7 := Rd.below_step (Rd.below_alloc (Below.refl _ _) _) hb
        have HE7 := Lib.hid hD
        have HD7 := Lib.hid (HD6.out.below hx)
        have HB7 := Lib.hid ((blk_below hx _ (blk_lt HB6.out)).trans HB6.out)
        have L7 := Rd.below_step L6 hx
        clear hD hb hx HD6 HB6 L6 bC6 hlC hw1
        have hlp := ld_pbox HB7.out
        rw [← eb] at hlp
        obtain ⟨mn, emn⟩ : ∃ z : Int, min m 20 = z := ⟨_, rfl⟩
        obtain ⟨pe, ee⟩ : ∃ a : En, (⟨y0, y1, y2, s, mn, 3⟩ : En) = a := ⟨_, rfl⟩
        have hec : (#[.int .i64 y0, .int .i64 y1, .int .i64 y2, .int .i64 s, .int .i64 mn, .int .u32 3] : Array Value) = pe.c := by rw [← ee]; rfl
        have bmn : 1 ≤ mn ∧ mn ≤ 20 := by omega
        have smn : secV mn = 1 := by rw [← emn]; exact sec_min bm.1
        go_wp2_with fail
        have mE : mayP d pe := by rw [← ee]; exact ⟨hvy, ⟨by show (2 : Int) ≤ s; omega, by show s < 2048; omega⟩, ⟨by show 1 ≤ mn; omega, by show mn ≤ 4096; omega⟩, by show s + secV mn ≤ 2048; omega⟩
        have hPe : pe.P ≠ pc.P := by rw [← ee, ← ec]; exact fun e => hxy e.symm
        have hfe : pe.S + secV pe.N ≤ pc.S ∨ pc.S + secV pc.N ≤ pe.S := by
          rw [← ee, ← ec]
          show s + secV mn ≤ s + 200 ∨ _
          rw [smn]
          omega
        have hBe : RB [pe] := by
          intro p hp
          simp at hp
          rw [hp, ← ee]
          exact ⟨by simp, by simp⟩
        have hw2 := (pair_with (d := d) (q := pe) (u := pb) (v := pc) (pair_swap d pc pb) (by rw [← ee, ← eb]; rfl) hPe).trans (pair_yes hd4 mE mC hPe hfe)
        refine (with_ok hw2 (HE7.out.below ((Below.refl _ _).alloc (Nat.le_refl _) _)) _ _ (rd_one _ _) hBe (by rw [srt_len]; simp)).mono ?_
        rintro e X8 ⟨⟨b3, rfl, hD⟩, hb⟩
        have hx : Below X7.heap.size X7 X8 := Rd.below_step (Rd.below_alloc (Below.refl _ _) _) hb
        have HF8 := Lib.hid hD
        have HD8 := Lib.hid (HD7.out.below hx)
        have L8 := Rd.below_step L7 hx
        clear hD hb hx HD7 HB7 HE7 L7 hlp hw2
        go_wp2_with fail
        refine (len_n HF8.out (n := 2) (pair_len _ _ _)).mono ?_
        rintro e X9 ⟨rfl, rfl⟩
        go_wp2_with fail
        refine (len_n HD8.out (n := 2) (pair_len _ _ _)).mono ?_
        rintro e X9 ⟨rfl, rfl⟩
        go_wp2_with fail
        refine (awake_any _).mono ?_
        rintro e w9 ⟨rfl, hb⟩
        go_wp2
        go_ret
        exact ⟨rfl, Rd.below_step L8 hb⟩
      · have hlt2 : t < 2 := by omega
        have hlow : pb.S < 2 := by rw [← eb]; exact hlt2
        go_wp2_with fail
        refine (new_not (pair_low (d := d) (a := pa) hlow) _ _ _ (rd_two _ _ _) hBab (by simp)).mono ?_
        rintro e X4 ⟨rfl, hb⟩
        have hx : Below X3.heap.size X3 X4 := Rd.below_step (Rd.below_alloc (Below.refl _ _) _) hb
        have HB4 := Lib.hid ((blk_below hx _ (blk_lt HB3.out)).trans HB3.out)
        have L4 := L3.trans (hx.mono L3.size)
        clear hb hx HA3 HB3 L3 hlA hlB
        have cB : X4.cell? ⟨g11, 3, none⟩ = some (.int .i64 t) := by rw [blk_cell HB4.out, ← eb]; rfl
        go_wp2_with fail
        refine (awake_any _).mono ?_
        rintro e w9 ⟨rfl, hb⟩
        go_wp2
        go_ret
        exact ⟨rfl, Rd.below_step L4 hb⟩
    · have hlt2 : ¬ t < 2 := by omega
      have q1 : decide ((0 : Int) ≤ gg) = false := decide_eq_false hg0
      have q2 : decide (t + 1 ≤ s) = false := decide_eq_false ht1
      have hfar : ¬ (pa.S + secV pa.N ≤ pb.S ∨ pb.S + secV pb.N ≤ pa.S) := fun h => by have := hfar.1 h; omega
      go_wp2_with fail
      refine (new_not (pair_far (d := d) hfar) _ _ _ (rd_two _ _ _) hBab (by simp)).mono ?_
      rintro e X4 ⟨rfl, hb⟩
      have hx : Below X3.heap.size X3 X4 := Rd.below_step (Rd.below_alloc (Below.refl _ _) _) hb
      have HB4 := Lib.hid ((blk_below hx _ (blk_lt HB3.out)).trans HB3.out)
      have L4 := L3.trans (hx.mono L3.size)
      clear hb hx HA3 HB3 L3 hlA hlB
      have cB : X4.cell? ⟨g11, 3, none⟩ = some (.int .i64 t) := by rw [blk_cell HB4.out, ← eb]; rfl
      go_wp2_with fail
      refine (awake_any _).mono ?_
      rintro e w9 ⟨rfl, hb⟩
      go_wp2
      go_ret
      exact ⟨rfl, Rd.below_step L4 hb⟩
end Go.Proofs.Ytpjbacpchmemeaa.DiAp
