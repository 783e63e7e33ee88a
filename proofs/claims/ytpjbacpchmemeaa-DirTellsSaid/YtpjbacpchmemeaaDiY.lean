/-
  What the document fixes: awake.
-/
import Derived.Test.YtpjbacpchmemeaaDiX
namespace Go.Proofs.Ytpjbacpchmemeaa.DiY
open Go.RowKit Go.Shelf Rd Go.Proofs.Ytpjbacpchmemeaa.Row Mid PgM PgA PgB PgC DiM DiA DiC DiD DiE DiF DiJ DiK DiL DiN DiO DiQ DiU DiV DiW DiX OctA OctB
open Go.Proofs.Ytpjbacpchmemeaa.DiM (at_ at_get ce ce_len ce_app ce_one ce_ones ce_at)
open Go.Proofs.Ytpjbacpchmemeaa.DiI (cutV cut_all cut_take)
open Go.Proofs.Ytpjbacpchmemeaa.Rds (Rds rds_stab reads_ext)
open Go.Proofs.Ytpjbacpchmemeaa.Pred (Is is_stab Stab)
set_option linter.unusedVariables false
set_option linter.unusedSimpArgs false
set_option maxRecDepth 10000
attribute [local go_sem ↓] load_pg store_pg load_en store_en alloc_en eq_pg3
attribute [local go_sem] one_int pc3 piece_en piece_p3 DiI.fold_en fold_two run_load_pg run_store_pg run_alloc_en run_load_en run_store_en midLoad_eq rowLoad_eq rowStore_eq blk_alloc_at blk_alloc_old blk_drew blk_drewN blk_set_far blk_set_far' blk_grow setRow_alloc_at setRow_alloc_old setRow_drew setRow_drewN En.c_size En.c_all all6
def eA : En := ⟨1, 0, 0, 2, 33, 5⟩
def eB : En := ⟨0, 1, 0, 4, 1, 0⟩
def eZ : En := ⟨0, 0, 0, 3, 1, 0⟩
def eC : En := ⟨0, 1, 0, 9, 2, 0⟩
theorem lz : (#[.int .i64 0, .int .i64 0, .int .i64 0, .int .i64 3, .int .i64 1, .int .u32 0] : Array Value) = eZ.c := rfl
theorem lc : (#[.int .i64 0, .int .i64 1, .int .i64 0, .int .i64 9, .int .i64 2, .int .u32 0] : Array Value) = eC.c := rfl
attribute [local go_sem] lz lc fold_sz
attribute [local go_sem ↓] eq_en
theorem eqE_b : eqE eB eB = true := by decide
theorem n1 : newV 1 [eB, eA] = some [eA, eB] := by decide +kernel
theorem n2 : newV 1 [eA, eZ] = none := by decide +kernel
theorem n3 : newV 1 ([eC] ++ keepP [eC] [eA, eB]) = some [eA, eC] := by decide +kernel
theorem n4 : getO [eA, eB] [0, 1, 0] = some eB := by decide +kernel
theorem n5 : getO [eA, eC] [0, 1, 0] = some eC := by decide +kernel
theorem n7 : secV 33 = 2 := by decide
theorem n8 : secV 0 = 0 := by decide
theorem n6 : decV 1 [0] = none := by decide +kernel
set_option maxHeartbeats 4000000 in
theorem awake_any (w : World) : Calls Try.prog 7 #[] w fun e w' => e = .returned (.bool true) ∧ Below w.heap.size w w' := by
  go_enter Try.func7, Try.ntmps7
  go_upto_region 2 with (fail)
  refine Rd.name_world ?_
  intro w1 hw
  have bA : blk w1 w.heap.size = some (.cells eA.c 39 (0, 0)) := by rw [hw]; exact (blk_alloc_old _ _ _ (by simp)).trans (blk_alloc_at _ _ _ rfl)
  have bB : blk w1 (w.heap.size + 1) = some (.cells eB.c 39 (0, 0)) := by rw [hw]; exact blk_alloc_at _ _ _ (by simp)
  have L1 : Below w.heap.size w w1 := by
    rw [hw]
    repeat' (first | (with_reducible exact Below.refl _ _) | (with_reducible refine Rd.below_step ?_ (by assumption)) | (with_reducible refine Rd.below_alloc ?_ _) | (with_reducible refine Rd.below_drewN ?_ _) | (with_reducible refine Below.drew ?_) | (with_reducible refine Below.setCell ?_ ?_ _) | (with_reducible refine Rd.below_setRow ?_ ?_ _) | go_size | (simp only [World.size_alloc]; omega) | omega)
  clear hw
  have hA := ld_box bA
  have hB := ld_box bB
  have HA := Lib.hid bA
  have HB := Lib.hid bB
  clear bA bB
  go_wp2_with fail
  refine (new_ok n1 _ _ _ (rd_two _ _ _) (by decide) (by decide)).mono ?_
  rintro e X1 ⟨⟨b1, rfl, hD⟩, hb⟩
  have hx : Below w1.heap.size w1 X1 := Rd.below_step (Rd.below_alloc (Below.refl _ _) _) hb
  have HA1 := Lib.hid ((blk_below hx _ (blk_lt HA.out)).trans HA.out)
  have HB1 := Lib.hid ((blk_below hx _ (blk_lt HB.out)).trans HB.out)
  have HD1 := Lib.hid hD
  have L2 := L1.trans (hx.mono L1.size)
  clear hD hb L1 hx HA HB hA hB
  have hA := ld_box HA1.out
  go_wp2_with fail
  refine (new_not n2 _ _ _ (rd_two _ _ _) (by decide) (by decide)).mono ?_
  rintro e X2 ⟨rfl, hb⟩
  have hx : Below X1.heap.size X1 X2 := Rd.below_step (Rd.below_alloc (Below.refl _ _) _) hb
  have HA2 := Lib.hid ((blk_below hx _ (blk_lt HA1.out)).trans HA1.out)
  have HB2 := Lib.hid ((blk_below hx _ (blk_lt HB1.out)).trans HB1.out)
  have HD2 := Lib.hid (HD1.out.below hx)
  have L3 := L2.trans (hx.mono L2.size)
  clear hb L2 hx HA1 HB1 hA HD1
  go_wp2_with fail
  refine (with_ok n3 (HD2.out.below ((Below.refl _ _).alloc (Nat.le_refl _) _)) _ _ (rd_one _ _) (by decide) (by decide)).mono ?_
  rintro e X3 ⟨⟨b2, rfl, hD⟩, hb⟩
  have hx : Below X2.heap.size X2 X3 := Rd.below_step (Rd.below_alloc (Below.refl _ _) _) hb
  have HA3 := Lib.hid ((blk_below hx _ (blk_lt HA2.out)).trans HA2.out)
  have HB3 := Lib.hid ((blk_below hx _ (blk_lt HB2.out)).trans HB2.out)
  have HD3 := Lib.hid (HD2.out.below hx)
  have HC3 := Lib.hid hD
  have L4 := L3.trans (hx.mono L3.size)
  clear hb L3 hx HA2 HB2 hD HD2
  go_wp2_with fail
  refine (get_ok HD3.out 0 1 0 n4).mono ?_
  rintro e X4 ⟨rfl, hb⟩
  have HA4 := Lib.hid ((blk_below hb _ (blk_lt HA3.out)).trans HA3.out)
  have HB4 := Lib.hid ((blk_below hb _ (blk_lt HB3.out)).trans HB3.out)
  have HD4 := Lib.hid (HD3.out.below hb)
  have HC4 := Lib.hid (HC3.out.below hb)
  have L5 := Rd.below_step L4 hb
  clear hb L4 HA3 HB3 HD3 HC3
  go_upto_region 8 with (fail)
  refine Rd.name_world ?_
  intro X5 hX
  have hb : Below X4.heap.size X4 X5 := by
    rw [hX]
    exact (Below.refl _ _).alloc (Nat.le_refl _) _
  have HX5 : Hid (blk X5 X4.heap.size = some (.cells eB.c 39 (0, 0))) := Lib.hid (by rw [hX]; exact blk_alloc_at _ _ _ rfl)
  have HA5 := Lib.hid ((blk_below hb _ (blk_lt HA4.out)).trans HA4.out)
  have HB5 := Lib.hid ((blk_below hb _ (blk_lt HB4.out)).trans HB4.out)
  have HD5 := Lib.hid (HD4.out.below hb)
  have HC5 := Lib.hid (HC4.out.below hb)
  have L6 := Rd.below_step L5 hb
  clear hX hb L5 HA4 HB4 HD4 HC4
  go_wp2_with fail
  refine (get_ok HC5.out 0 1 0 n5).mono ?_
  rintro e X6 ⟨rfl, hb⟩
  have HA6 := Lib.hid ((blk_below hb _ (blk_lt HA5.out)).trans HA5.out)
  have HB6 := Lib.hid ((blk_below hb _ (blk_lt HB5.out)).trans HB5.out)
  have HX6 := Lib.hid ((blk_below hb _ (blk_lt HX5.out)).trans HX5.out)
  have HD6 := Lib.hid (HD5.out.below hb)
  have L7 := Rd.below_step L6 hb
  clear hb L6 HA5 HB5 HD5 HC5 HX5
  go_upto_region 11 with (fail)
  refine Rd.name_world ?_
  intro X7 hX
  have hb : Below X6.heap.size X6 X7 := by
    rw [hX]
    exact (Below.refl _ _).alloc (Nat.le_refl _) _
  have HY7 : Hid (blk X7 X6.heap.size = some (.cells eC.c 39 (0, 0))) := Lib.hid (by rw [hX]; exact blk_alloc_at _ _ _ rfl)
  have HA7 := Lib.hid ((blk_below hb _ (blk_lt HA6.out)).trans HA6.out)
  have HB7 := Lib.hid ((blk_below hb _ (blk_lt HB6.out)).trans HB6.out)
  have HX7 := Lib.hid ((blk_below hb _ (blk_lt HX6.out)).trans HX6.out)
  have HD7 := Lib.hid (HD6.out.below hb)
  have L8 := Rd.below_step L7 hb
  clear hX hb L7 HA6 HB6 HD6 HX6
  go_wp2_with fail
  refine (bytes_db HD7.out).mono ?_
  rintro e X8 ⟨⟨a8, c8, rfl, hc8, hr8⟩, hb⟩
  have HR8 := Lib.hid hr8
  have HA8 := Lib.hid ((blk_below hb _ (blk_lt HA7.out)).trans HA7.out)
  have HB8 := Lib.hid ((blk_below hb _ (blk_lt HB7.out)).trans HB7.out)
  have HX8 := Lib.hid ((blk_below hb _ (blk_lt HX7.out)).trans HX7.out)
  have HY8 := Lib.hid ((blk_below hb _ (blk_lt HY7.out)).trans HY7.out)
  have HD8 := Lib.hid (HD7.out.below hb)
  have L9 := Rd.below_step L8 hb
  have hc8' : 20 ≤ c8 := hc8
  clear hb L8 HA7 HB7 HD7 HX7 HY7 hr8 hc8
  go_wp2_with fail
  refine (dec_ok (dec_back HD8.out.dr.good HD8.out.dr.by_ HD8.out.bd) _ 20 _ _ HR8.out (dirB_bd _ _) (by decide) hc8').mono ?_
  rintro e X9 ⟨⟨b9, rfl, hD⟩, hb⟩
  have HA9 := Lib.hid ((blk_below hb _ (blk_lt HA8.out)).trans HA8.out)
  have HB9 := Lib.hid ((blk_below hb _ (blk_lt HB8.out)).trans HB8.out)
  have HX9 := Lib.hid ((blk_below hb _ (blk_lt HX8.out)).trans HX8.out)
  have HY9 := Lib.hid ((blk_below hb _ (blk_lt HY8.out)).trans HY8.out)
  have HD9 := Lib.hid (HD8.out.below hb)
  have HE9 := Lib.hid hD
  have L10 := Rd.below_step L9 hb
  clear hb L9 HA8 HB8 HD8 HX8 HY8 HR8 hD
  go_wp2_with fail
  refine (dec_not n6 (by decide) _ 1 _ _ ⟨rfl, .inr ⟨X9.heap.size, 0, rfl, by simp, fun j hj => ?_⟩⟩ (by decide) (by decide) (by decide)).mono ?_
  · obtain rfl : j = 0 := by simpa using hj
    rw [blk_cell (blk_alloc_at _ _ _ rfl)]
    rfl
  rintro e Z ⟨rfl, hb⟩
  have hx : Below X9.heap.size X9 Z := Rd.below_step (Rd.below_alloc (Below.refl _ _) _) hb
  have bA := (blk_below hx _ (blk_lt HA9.out)).trans HA9.out
  have bB := (blk_below hx _ (blk_lt HB9.out)).trans HB9.out
  have bX := (blk_below hx _ (blk_lt HX9.out)).trans HX9.out
  have bY := (blk_below hx _ (blk_lt HY9.out)).trans HY9.out
  have HD := Lib.hid (HD9.out.below hx)
  have HE := Lib.hid (HE9.out.below hx)
  have L11 := L10.trans (hx.mono L10.size)
  clear hb hx L10 HA9 HB9 HD9 HX9 HY9 HE9
  go_upto_region 14 with (fail)
  refine Pred.region_vals (Pred.Of [
      Is (.int .i64 1),
      Is (.bool true),
      Is (.bool true),
      Is (.pointer (some ⟨b1, 0, none⟩)),
      SE [eA, eB],
      Is (.agg eA.c),
      Is (.agg eB.c),
      SE [eA, eB],
      Is (.bool true),
      Is (.bool true),
      Is (.bool true),
      Is (.bool true),
      Is (.bool true),
      Is (.bool true),
      Is (.agg eB.c),
      Is (.agg eB.c),
      Is (.bool true),
      Is (.bool true),
      Is (.bool true),
      Is (.bool true),
      Is (.bool true),
      Is (.bool true),
      Is (.pointer (some ⟨X6.heap.size, 3, none⟩)),
      Is (.int .i64 9),
      Is (.bool true),
      Is (.bool true),
      Is (.bool true),
      Is (.int .i64 0),
      Is (.bool true),
      Is (.bool true),
      Is (.bool true),
      Is (.pointer (some ⟨b9, 0, none⟩)),
      Is (.bool true),
      Is (.bool true),
      Is (.bool true),
      Is (.pointer (some ⟨b9, 0, none⟩)),
      Is (.int .i64 2),
      Is (.bool true),
      Is (.bool true),
      Is (.bool true),
      Is (.int .i64 3),
      Is (.bool true),
      Is (.bool true),
      Is (.bool true),
      Is (.int .i64 2),
      Is (.bool true),
      Is (.bool true),
      Is (.bool true),
      Is (.int .i64 0),
      Is (.bool true),
      Is (.bool true),
      Is (.bool true),
      Is (.pointer none),
      Is (.int .i64 0),
      Is (.bool true),
      Is (.bool true),
      Is (.bool true),
      Is (.pointer none),
      Is (.slice none 0 0),
      Is (.int .i64 0),
      Is (.bool true),
      Is (.bool true),
      Is (.bool true)]) (by kernel_rfl) (by kernel_rfl) (by kernel_rfl) (Pred.of_stab ?_) ?_ ?_
  · exact ⟨is_stab _, is_stab _, is_stab _, is_stab _, se_stab _, is_stab _, is_stab _, se_stab _, is_stab _, is_stab _, is_stab _, is_stab _, is_stab _, is_stab _, is_stab _, is_stab _, is_stab _, is_stab _, is_stab _, is_stab _, is_stab _, is_stab _, is_stab _, is_stab _, is_stab _, is_stab _, is_stab _, is_stab _, is_stab _, is_stab _, is_stab _, is_stab _, is_stab _, is_stab _, is_stab _, is_stab _, is_stab _, is_stab _, is_stab _, is_stab _, is_stab _, is_stab _, is_stab _, is_stab _, is_stab _, is_stab _, is_stab _, is_stab _, is_stab _, is_stab _, is_stab _, is_stab _, is_stab _, is_stab _, is_stab _, is_stab _, is_stab _, is_stab _, is_stab _, is_stab _, is_stab _, is_stab _, is_stab _, trivial⟩
  · refine ⟨?_, ?_, ?_, ?_, ?_, ?_, ?_, ?_, ?_, ?_, ?_, ?_, ?_, ?_, ?_, ?_, ?_, ?_, ?_, ?_, ?_, ?_, ?_, ?_, ?_, ?_, ?_, ?_, ?_, ?_, ?_, ?_, ?_, ?_, ?_, ?_, ?_, ?_, ?_, ?_, ?_, ?_, ?_, ?_, ?_, ?_, ?_, ?_, ?_, ?_, ?_, ?_, ?_, ?_, ?_, ?_, ?_, ?_, ?_, ?_, ?_, ?_, ?_, trivial⟩
    · intro b X hE hd hn hV
      have r6 : b.tmps[6]?.getD undef = .int .i64 1 := (hn 6 (by kernel_rfl)).trans rfl
      exact Pred.yields_run (v := .int .i64 1) (Pred.wanted_none rfl) (by go_simp) ⟨Pred.ext_refl _ _, rfl⟩
    · intro b X hE hd hn hV
      have r80 : b.tmps[80]?.getD undef = .int .i64 1 := hV 0 _ 80 rfl rfl (Pred.waits_near (by kernel_rfl) (by kernel_rfl))
      exact Pred.yields_run (v := .bool true) (Pred.wanted_none rfl) (by go_simp) ⟨Pred.ext_refl _ _, rfl⟩
    · intro b X hE hd hn hV
      have r81 : b.tmps[81]?.getD undef = .bool true := hV 1 _ 81 rfl rfl (Pred.waits_near (by kernel_rfl) (by kernel_rfl))
      exact Pred.yields_run (v := .bool true) (Pred.wanted_none rfl) (by go_simp) ⟨Pred.ext_refl _ _, rfl⟩
    · intro b X hE hd hn hV
      have r3 : b.tmps[3]?.getD undef = .pointer (some ⟨b1, 0, none⟩) := (hn 3 (by kernel_rfl)).trans rfl
      have r82 : b.tmps[82]?.getD undef = .bool true := hV 2 _ 82 rfl rfl (Pred.waits_near (by kernel_rfl) (by kernel_rfl))
      exact Pred.yields_run (v := .pointer (some ⟨b1, 0, none⟩)) ((Pred.wanted_at (g := 2) (d := 82) (f := true) rfl rfl r82).trans rfl) (by go_simp) ⟨Pred.ext_refl _ _, rfl⟩
    · intro b X hE hd hn hV
      have r83 : b.tmps[83]?.getD undef = .pointer (some ⟨b1, 0, none⟩) := hV 3 _ 83 rfl rfl (Pred.waits_near (by kernel_rfl) (by kernel_rfl))
      have r82 : b.tmps[82]?.getD undef = .bool true := hV 2 _ 82 rfl rfl (Pred.waits_near (by kernel_rfl) (by kernel_rfl))
      refine Pred.yields_call (f := 20) (args := #[.pointer (some ⟨b1, 0, none⟩), .int .i64 (-1)]) ((Pred.wanted_at (g := 2) (d := 82) (f := true) rfl rfl r82).trans rfl) (by go_simp) ?_
      have C := all_db (HD.out.below hE) (-1)
      rw [cut_all] at C
      exact C.mono fun e w2 ⟨⟨u, he, hu⟩, hb⟩ => ⟨_, he, Pred.ext_below hb hE.size, hu⟩
    · intro b X hE hd hn hV
      have r1 : b.tmps[1]?.getD undef = .pointer (some ⟨w.heap.size, 0, none⟩) := (hn 1 (by kernel_rfl)).trans rfl
      have r82 : b.tmps[82]?.getD undef = .bool true := hV 2 _ 82 rfl rfl (Pred.waits_near (by kernel_rfl) (by kernel_rfl))
      have q := ld_box ((blk_below hE _ (blk_lt bA)).trans bA)
      exact Pred.yields_run (v := .agg eA.c) ((Pred.wanted_at (g := 2) (d := 82) (f := true) rfl rfl r82).trans rfl) (by go_simp) ⟨Pred.ext_refl _ _, rfl⟩
    · intro b X hE hd hn hV
      have r2 : b.tmps[2]?.getD undef = .pointer (some ⟨w.heap.size + 1, 0, none⟩) := (hn 2 (by kernel_rfl)).trans rfl
      have r82 : b.tmps[82]?.getD undef = .bool true := hV 2 _ 82 rfl rfl (Pred.waits_near (by kernel_rfl) (by kernel_rfl))
      have q := ld_box ((blk_below hE _ (blk_lt bB)).trans bB)
      exact Pred.yields_run (v := .agg eB.c) ((Pred.wanted_at (g := 2) (d := 82) (f := true) rfl rfl r82).trans rfl) (by go_simp) ⟨Pred.ext_refl _ _, rfl⟩
    · intro b X hE hd hn hV
      have r85 : b.tmps[85]?.getD undef = .agg eA.c := hV 5 _ 85 rfl rfl (Pred.waits_near (by kernel_rfl) (by kernel_rfl))
      have r86 : b.tmps[86]?.getD undef = .agg eB.c := hV 6 _ 86 rfl rfl (Pred.waits_near (by kernel_rfl) (by kernel_rfl))
      have r82 : b.tmps[82]?.getD undef = .bool true := hV 2 _ 82 rfl rfl (Pred.waits_near (by kernel_rfl) (by kernel_rfl))
      exact Pred.yields_run (v := .slice (some ⟨X.heap.size, 0, none⟩) 2 2) (w' := X.alloc (.cells (c2 eA eB) 39)) ((Pred.wanted_at (g := 2) (d := 82) (f := true) rfl rfl r82).trans rfl) (by go_simp) ⟨Pred.ext_below ((Below.refl _ _).alloc (Nat.le_refl _) _) hE.size, _, _, rfl, rd_two X eA eB, Nat.le_refl _⟩
    · intro b X hE hd hn hV
      obtain ⟨ga84, ca84, r84, hr84, hc84⟩ : SE [eA, eB] (b.tmps[84]?.getD undef) X := hV 4 _ 84 rfl rfl (Pred.waits_near (by kernel_rfl) (by kernel_rfl))
      obtain ⟨ga87, ca87, r87, hr87, hc87⟩ : SE [eA, eB] (b.tmps[87]?.getD undef) X := hV 7 _ 87 rfl rfl (Pred.waits_near (by kernel_rfl) (by kernel_rfl))
      have r82 : b.tmps[82]?.getD undef = .bool true := hV 2 _ 82 rfl rfl (Pred.waits_near (by kernel_rfl) (by kernel_rfl))
      refine Pred.yields_call (f := 19) (args := #[.slice ga84 2 ca84, .slice ga87 2 ca87]) ((Pred.wanted_at (g := 2) (d := 82) (f := true) rfl rfl r82).trans rfl) (by go_simp) ?_
      have C := same_any [eA, eB] [eA, eB] ga84 ga87 ca84 ca87 X hr84 hr87 (by decide) (by decide)
      rw [show decide ([eA, eB] = [eA, eB]) = true from rfl] at C
      exact C.mono fun e w2 ⟨he, hb⟩ => ⟨_, he, Pred.ext_below hb hE.size, rfl⟩
    · intro b X hE hd hn hV
      have r82 : b.tmps[82]?.getD undef = .bool true := hV 2 _ 82 rfl rfl (Pred.waits_near (by kernel_rfl) (by kernel_rfl))
      have r88 : b.tmps[88]?.getD undef = .bool true := hV 8 _ 88 rfl rfl (Pred.waits_near (by kernel_rfl) (by kernel_rfl))
      exact Pred.yields_run (v := .bool true) (Pred.wanted_none rfl) (by go_simp) ⟨Pred.ext_refl _ _, rfl⟩
    · intro b X hE hd hn hV
      have r89 : b.tmps[89]?.getD undef = .bool true := hV 9 _ 89 rfl rfl (Pred.waits_near (by kernel_rfl) (by kernel_rfl))
      exact Pred.yields_run (v := .bool true) (Pred.wanted_none rfl) (by go_simp) ⟨Pred.ext_refl _ _, rfl⟩
    · intro b X hE hd hn hV
      have r10 : b.tmps[10]?.getD undef = .bool true := (hn 10 (by kernel_rfl)).trans rfl
      have r90 : b.tmps[90]?.getD undef = .bool true := hV 10 _ 90 rfl rfl (Pred.waits_near (by kernel_rfl) (by kernel_rfl))
      exact Pred.yields_run (v := .bool true) ((Pred.wanted_at (g := 10) (d := 90) (f := true) rfl rfl r90).trans rfl) (by go_simp) ⟨Pred.ext_refl _ _, rfl⟩
    · intro b X hE hd hn hV
      have r90 : b.tmps[90]?.getD undef = .bool true := hV 10 _ 90 rfl rfl (Pred.waits_near (by kernel_rfl) (by kernel_rfl))
      have r91 : b.tmps[91]?.getD undef = .bool true := hV 11 _ 91 rfl rfl (Pred.waits_near (by kernel_rfl) (by kernel_rfl))
      exact Pred.yields_run (v := .bool true) (Pred.wanted_none rfl) (by go_simp) ⟨Pred.ext_refl _ _, rfl⟩
    · intro b X hE hd hn hV
      have r92 : b.tmps[92]?.getD undef = .bool true := hV 12 _ 92 rfl rfl (Pred.waits_near (by kernel_rfl) (by kernel_rfl))
      exact Pred.yields_run (v := .bool true) (Pred.wanted_none rfl) (by go_simp) ⟨Pred.ext_refl _ _, rfl⟩
    · intro b X hE hd hn hV
      have r9 : b.tmps[9]?.getD undef = .pointer (some ⟨X4.heap.size, 0, none⟩) := (hn 9 (by kernel_rfl)).trans rfl
      have r93 : b.tmps[93]?.getD undef = .bool true := hV 13 _ 93 rfl rfl (Pred.waits_near (by kernel_rfl) (by kernel_rfl))
      have q := ld_box ((blk_below hE _ (blk_lt bX)).trans bX)
      exact Pred.yields_run (v := .agg eB.c) ((Pred.wanted_at (g := 13) (d := 93) (f := true) rfl rfl r93).trans rfl) (by go_simp) ⟨Pred.ext_refl _ _, rfl⟩
    · intro b X hE hd hn hV
      have r2 : b.tmps[2]?.getD undef = .pointer (some ⟨w.heap.size + 1, 0, none⟩) := (hn 2 (by kernel_rfl)).trans rfl
      have r93 : b.tmps[93]?.getD undef = .bool true := hV 13 _ 93 rfl rfl (Pred.waits_near (by kernel_rfl) (by kernel_rfl))
      have q := ld_box ((blk_below hE _ (blk_lt bB)).trans bB)
      exact Pred.yields_run (v := .agg eB.c) ((Pred.wanted_at (g := 13) (d := 93) (f := true) rfl rfl r93).trans rfl) (by go_simp) ⟨Pred.ext_refl _ _, rfl⟩
    · intro b X hE hd hn hV
      have r94 : b.tmps[94]?.getD undef = .agg eB.c := hV 14 _ 94 rfl rfl (Pred.waits_near (by kernel_rfl) (by kernel_rfl))
      have r95 : b.tmps[95]?.getD undef = .agg eB.c := hV 15 _ 95 rfl rfl (Pred.waits_near (by kernel_rfl) (by kernel_rfl))
      have r93 : b.tmps[93]?.getD undef = .bool true := hV 13 _ 93 rfl rfl (Pred.waits_near (by kernel_rfl) (by kernel_rfl))
      have h := eqE_b
      exact Pred.yields_run (v := .bool true) ((Pred.wanted_at (g := 13) (d := 93) (f := true) rfl rfl r93).trans rfl) (by go_simp) ⟨Pred.ext_refl _ _, rfl⟩
    · intro b X hE hd hn hV
      have r93 : b.tmps[93]?.getD undef = .bool true := hV 13 _ 93 rfl rfl (Pred.waits_near (by kernel_rfl) (by kernel_rfl))
      have r96 : b.tmps[96]?.getD undef = .bool true := hV 16 _ 96 rfl rfl (Pred.waits_near (by kernel_rfl) (by kernel_rfl))
      exact Pred.yields_run (v := .bool true) (Pred.wanted_none rfl) (by go_simp) ⟨Pred.ext_refl _ _, rfl⟩
    · intro b X hE hd hn hV
      have r97 : b.tmps[97]?.getD undef = .bool true := hV 17 _ 97 rfl rfl (Pred.waits_near (by kernel_rfl) (by kernel_rfl))
      exact Pred.yields_run (v := .bool true) (Pred.wanted_none rfl) (by go_simp) ⟨Pred.ext_refl _ _, rfl⟩
    · intro b X hE hd hn hV
      have r12 : b.tmps[12]?.getD undef = .bool true := (hn 12 (by kernel_rfl)).trans rfl
      have r98 : b.tmps[98]?.getD undef = .bool true := hV 18 _ 98 rfl rfl (Pred.waits_near (by kernel_rfl) (by kernel_rfl))
      exact Pred.yields_run (v := .bool true) ((Pred.wanted_at (g := 18) (d := 98) (f := true) rfl rfl r98).trans rfl) (by go_simp) ⟨Pred.ext_refl _ _, rfl⟩
    · intro b X hE hd hn hV
      have r98 : b.tmps[98]?.getD undef = .bool true := hV 18 _ 98 rfl rfl (Pred.waits_near (by kernel_rfl) (by kernel_rfl))
      have r99 : b.tmps[99]?.getD undef = .bool true := hV 19 _ 99 rfl rfl (Pred.waits_near (by kernel_rfl) (by kernel_rfl))
      exact Pred.yields_run (v := .bool true) (Pred.wanted_none rfl) (by go_simp) ⟨Pred.ext_refl _ _, rfl⟩
    · intro b X hE hd hn hV
      have r100 : b.tmps[100]?.getD undef = .bool true := hV 20 _ 100 rfl rfl (Pred.waits_near (by kernel_rfl) (by kernel_rfl))
      exact Pred.yields_run (v := .bool true) (Pred.wanted_none rfl) (by go_simp) ⟨Pred.ext_refl _ _, rfl⟩
    · intro b X hE hd hn hV
      have r11 : b.tmps[11]?.getD undef = .pointer (some ⟨X6.heap.size, 0, none⟩) := (hn 11 (by kernel_rfl)).trans rfl
      have r101 : b.tmps[101]?.getD undef = .bool true := hV 21 _ 101 rfl rfl (Pred.waits_near (by kernel_rfl) (by kernel_rfl))
      exact Pred.yields_run (v := .pointer (some ⟨X6.heap.size, 3, none⟩)) ((Pred.wanted_at (g := 21) (d := 101) (f := true) rfl rfl r101).trans rfl) (by go_simp) ⟨Pred.ext_refl _ _, rfl⟩
    · intro b X hE hd hn hV
      have r102 : b.tmps[102]?.getD undef = .pointer (some ⟨X6.heap.size, 3, none⟩) := hV 22 _ 102 rfl rfl (Pred.waits_near (by kernel_rfl) (by kernel_rfl))
      have r101 : b.tmps[101]?.getD undef = .bool true := hV 21 _ 101 rfl rfl (Pred.waits_near (by kernel_rfl) (by kernel_rfl))
      have q : X.cell? ⟨X6.heap.size, 3, none⟩ = some (.int .i64 9) := by rw [blk_cell ((blk_below hE _ (blk_lt bY)).trans bY)]; rfl
      exact Pred.yields_run (v := .int .i64 9) ((Pred.wanted_at (g := 21) (d := 101) (f := true) rfl rfl r101).trans rfl) (by go_simp) ⟨Pred.ext_refl _ _, rfl⟩
    · intro b X hE hd hn hV
      have r103 : b.tmps[103]?.getD undef = .int .i64 9 := hV 23 _ 103 rfl rfl (Pred.waits_near (by kernel_rfl) (by kernel_rfl))
      have r101 : b.tmps[101]?.getD undef = .bool true := hV 21 _ 101 rfl rfl (Pred.waits_near (by kernel_rfl) (by kernel_rfl))
      exact Pred.yields_run (v := .bool true) ((Pred.wanted_at (g := 21) (d := 101) (f := true) rfl rfl r101).trans rfl) (by go_simp) ⟨Pred.ext_refl _ _, rfl⟩
    · intro b X hE hd hn hV
      have r101 : b.tmps[101]?.getD undef = .bool true := hV 21 _ 101 rfl rfl (Pred.waits_near (by kernel_rfl) (by kernel_rfl))
      have r104 : b.tmps[104]?.getD undef = .bool true := hV 24 _ 104 rfl rfl (Pred.waits_near (by kernel_rfl) (by kernel_rfl))
      exact Pred.yields_run (v := .bool true) (Pred.wanted_none rfl) (by go_simp) ⟨Pred.ext_refl _ _, rfl⟩
    · intro b X hE hd hn hV
      have r105 : b.tmps[105]?.getD undef = .bool true := hV 25 _ 105 rfl rfl (Pred.waits_near (by kernel_rfl) (by kernel_rfl))
      exact Pred.yields_run (v := .bool true) (Pred.wanted_none rfl) (by go_simp) ⟨Pred.ext_refl _ _, rfl⟩
    · intro b X hE hd hn hV
      have r14 : b.tmps[14]?.getD undef = .int .i64 0 := (hn 14 (by kernel_rfl)).trans rfl
      have r106 : b.tmps[106]?.getD undef = .bool true := hV 26 _ 106 rfl rfl (Pred.waits_near (by kernel_rfl) (by kernel_rfl))
      exact Pred.yields_run (v := .int .i64 0) ((Pred.wanted_at (g := 26) (d := 106) (f := true) rfl rfl r106).trans rfl) (by go_simp) ⟨Pred.ext_refl _ _, rfl⟩
    · intro b X hE hd hn hV
      have r107 : b.tmps[107]?.getD undef = .int .i64 0 := hV 27 _ 107 rfl rfl (Pred.waits_near (by kernel_rfl) (by kernel_rfl))
      have r106 : b.tmps[106]?.getD undef = .bool true := hV 26 _ 106 rfl rfl (Pred.waits_near (by kernel_rfl) (by kernel_rfl))
      exact Pred.yields_run (v := .bool true) ((Pred.wanted_at (g := 26) (d := 106) (f := true) rfl rfl r106).trans rfl) (by go_simp) ⟨Pred.ext_refl _ _, rfl⟩
    · intro b X hE hd hn hV
      have r106 : b.tmps[106]?.getD undef = .bool true := hV 26 _ 106 rfl rfl (Pred.waits_near (by kernel_rfl) (by kernel_rfl))
      have r108 : b.tmps[108]?.getD undef = .bool true := hV 28 _ 108 rfl rfl (Pred.waits_near (by kernel_rfl) (by kernel_rfl))
      exact Pred.yields_run (v := .bool true) (Pred.wanted_none rfl) (by go_simp) ⟨Pred.ext_refl _ _, rfl⟩
    · intro b X hE hd hn hV
      have r109 : b.tmps[109]?.getD undef = .bool true := hV 29 _ 109 rfl rfl (Pred.waits_near (by kernel_rfl) (by kernel_rfl))
      exact Pred.yields_run (v := .bool true) (Pred.wanted_none rfl) (by go_simp) ⟨Pred.ext_refl _ _, rfl⟩
    · intro b X hE hd hn hV
      have r13 : b.tmps[13]?.getD undef = .pointer (some ⟨b9, 0, none⟩) := (hn 13 (by kernel_rfl)).trans rfl
      have r110 : b.tmps[110]?.getD undef = .bool true := hV 30 _ 110 rfl rfl (Pred.waits_near (by kernel_rfl) (by kernel_rfl))
      exact Pred.yields_run (v := .pointer (some ⟨b9, 0, none⟩)) ((Pred.wanted_at (g := 30) (d := 110) (f := true) rfl rfl r110).trans rfl) (by go_simp) ⟨Pred.ext_refl _ _, rfl⟩
    · intro b X hE hd hn hV
      have r111 : b.tmps[111]?.getD undef = .pointer (some ⟨b9, 0, none⟩) := hV 31 _ 111 rfl rfl (Pred.waits_near (by kernel_rfl) (by kernel_rfl))
      have r110 : b.tmps[110]?.getD undef = .bool true := hV 30 _ 110 rfl rfl (Pred.waits_near (by kernel_rfl) (by kernel_rfl))
      exact Pred.yields_run (v := .bool true) ((Pred.wanted_at (g := 30) (d := 110) (f := true) rfl rfl r110).trans rfl) (by go_simp) ⟨Pred.ext_refl _ _, rfl⟩
    · intro b X hE hd hn hV
      have r110 : b.tmps[110]?.getD undef = .bool true := hV 30 _ 110 rfl rfl (Pred.waits_near (by kernel_rfl) (by kernel_rfl))
      have r112 : b.tmps[112]?.getD undef = .bool true := hV 32 _ 112 rfl rfl (Pred.waits_near (by kernel_rfl) (by kernel_rfl))
      exact Pred.yields_run (v := .bool true) (Pred.wanted_none rfl) (by go_simp) ⟨Pred.ext_refl _ _, rfl⟩
    · intro b X hE hd hn hV
      have r113 : b.tmps[113]?.getD undef = .bool true := hV 33 _ 113 rfl rfl (Pred.waits_near (by kernel_rfl) (by kernel_rfl))
      exact Pred.yields_run (v := .bool true) (Pred.wanted_none rfl) (by go_simp) ⟨Pred.ext_refl _ _, rfl⟩
    · intro b X hE hd hn hV
      have r13 : b.tmps[13]?.getD undef = .pointer (some ⟨b9, 0, none⟩) := (hn 13 (by kernel_rfl)).trans rfl
      have r114 : b.tmps[114]?.getD undef = .bool true := hV 34 _ 114 rfl rfl (Pred.waits_near (by kernel_rfl) (by kernel_rfl))
      exact Pred.yields_run (v := .pointer (some ⟨b9, 0, none⟩)) ((Pred.wanted_at (g := 34) (d := 114) (f := true) rfl rfl r114).trans rfl) (by go_simp) ⟨Pred.ext_refl _ _, rfl⟩
    · intro b X hE hd hn hV
      have r115 : b.tmps[115]?.getD undef = .pointer (some ⟨b9, 0, none⟩) := hV 35 _ 115 rfl rfl (Pred.waits_near (by kernel_rfl) (by kernel_rfl))
      have r114 : b.tmps[114]?.getD undef = .bool true := hV 34 _ 114 rfl rfl (Pred.waits_near (by kernel_rfl) (by kernel_rfl))
      refine Pred.yields_call (f := 22) (args := #[.pointer (some ⟨b9, 0, none⟩)]) ((Pred.wanted_at (g := 34) (d := 114) (f := true) rfl rfl r114).trans rfl) (by go_simp) ?_
      have C := len_db (HE.out.below hE)
      exact C.mono fun e w2 ⟨he, hb⟩ => ⟨_, he, hb ▸ Pred.ext_refl _ _, rfl⟩
    · intro b X hE hd hn hV
      have r116 : b.tmps[116]?.getD undef = .int .i64 2 := hV 36 _ 116 rfl rfl (Pred.waits_near (by kernel_rfl) (by kernel_rfl))
      have r114 : b.tmps[114]?.getD undef = .bool true := hV 34 _ 114 rfl rfl (Pred.waits_near (by kernel_rfl) (by kernel_rfl))
      exact Pred.yields_run (v := .bool true) ((Pred.wanted_at (g := 34) (d := 114) (f := true) rfl rfl r114).trans rfl) (by go_simp) ⟨Pred.ext_refl _ _, rfl⟩
    · intro b X hE hd hn hV
      have r114 : b.tmps[114]?.getD undef = .bool true := hV 34 _ 114 rfl rfl (Pred.waits_near (by kernel_rfl) (by kernel_rfl))
      have r117 : b.tmps[117]?.getD undef = .bool true := hV 37 _ 117 rfl rfl (Pred.waits_near (by kernel_rfl) (by kernel_rfl))
      exact Pred.yields_run (v := .bool true) (Pred.wanted_none rfl) (by go_simp) ⟨Pred.ext_refl _ _, rfl⟩
    · intro b X hE hd hn hV
      have r118 : b.tmps[118]?.getD undef = .bool true := hV 38 _ 118 rfl rfl (Pred.waits_near (by kernel_rfl) (by kernel_rfl))
      exact Pred.yields_run (v := .bool true) (Pred.wanted_none rfl) (by go_simp) ⟨Pred.ext_refl _ _, rfl⟩
    · intro b X hE hd hn hV
      have r16 : b.tmps[16]?.getD undef = .int .i64 3 := (hn 16 (by kernel_rfl)).trans rfl
      have r119 : b.tmps[119]?.getD undef = .bool true := hV 39 _ 119 rfl rfl (Pred.waits_near (by kernel_rfl) (by kernel_rfl))
      exact Pred.yields_run (v := .int .i64 3) ((Pred.wanted_at (g := 39) (d := 119) (f := true) rfl rfl r119).trans rfl) (by go_simp) ⟨Pred.ext_refl _ _, rfl⟩
    · intro b X hE hd hn hV
      have r120 : b.tmps[120]?.getD undef = .int .i64 3 := hV 40 _ 120 rfl rfl (Pred.waits_near (by kernel_rfl) (by kernel_rfl))
      have r119 : b.tmps[119]?.getD undef = .bool true := hV 39 _ 119 rfl rfl (Pred.waits_near (by kernel_rfl) (by kernel_rfl))
      exact Pred.yields_run (v := .bool true) ((Pred.wanted_at (g := 39) (d := 119) (f := true) rfl rfl r119).trans rfl) (by go_simp) ⟨Pred.ext_refl _ _, rfl⟩
    · intro b X hE hd hn hV
      have r119 : b.tmps[119]?.getD undef = .bool true := hV 39 _ 119 rfl rfl (Pred.waits_near (by kernel_rfl) (by kernel_rfl))
      have r121 : b.tmps[121]?.getD undef = .bool true := hV 41 _ 121 rfl rfl (Pred.waits_near (by kernel_rfl) (by kernel_rfl))
      exact Pred.yields_run (v := .bool true) (Pred.wanted_none rfl) (by go_simp) ⟨Pred.ext_refl _ _, rfl⟩
    · intro b X hE hd hn hV
      have r122 : b.tmps[122]?.getD undef = .bool true := hV 42 _ 122 rfl rfl (Pred.waits_near (by kernel_rfl) (by kernel_rfl))
      exact Pred.yields_run (v := .bool true) (Pred.wanted_none rfl) (by go_simp) ⟨Pred.ext_refl _ _, rfl⟩
    · intro b X hE hd hn hV
      have r123 : b.tmps[123]?.getD undef = .bool true := hV 43 _ 123 rfl rfl (Pred.waits_near (by kernel_rfl) (by kernel_rfl))
      refine Pred.yields_call (f := 13) (args := #[.int .i64 33]) ((Pred.wanted_at (g := 43) (d := 123) (f := true) rfl rfl r123).trans rfl) (by go_simp) ?_
      have C := sectors_any 33 (by decide) X
      rw [n7] at C
      exact C.mono fun e w2 ⟨he, hb⟩ => ⟨_, he, Pred.ext_below hb hE.size, rfl⟩
    · intro b X hE hd hn hV
      have r124 : b.tmps[124]?.getD undef = .int .i64 2 := hV 44 _ 124 rfl rfl (Pred.waits_near (by kernel_rfl) (by kernel_rfl))
      have r123 : b.tmps[123]?.getD undef = .bool true := hV 43 _ 123 rfl rfl (Pred.waits_near (by kernel_rfl) (by kernel_rfl))
      exact Pred.yields_run (v := .bool true) ((Pred.wanted_at (g := 43) (d := 123) (f := true) rfl rfl r123).trans rfl) (by go_simp) ⟨Pred.ext_refl _ _, rfl⟩
    · intro b X hE hd hn hV
      have r123 : b.tmps[123]?.getD undef = .bool true := hV 43 _ 123 rfl rfl (Pred.waits_near (by kernel_rfl) (by kernel_rfl))
      have r125 : b.tmps[125]?.getD undef = .bool true := hV 45 _ 125 rfl rfl (Pred.waits_near (by kernel_rfl) (by kernel_rfl))
      exact Pred.yields_run (v := .bool true) (Pred.wanted_none rfl) (by go_simp) ⟨Pred.ext_refl _ _, rfl⟩
    · intro b X hE hd hn hV
      have r126 : b.tmps[126]?.getD undef = .bool true := hV 46 _ 126 rfl rfl (Pred.waits_near (by kernel_rfl) (by kernel_rfl))
      exact Pred.yields_run (v := .bool true) (Pred.wanted_none rfl) (by go_simp) ⟨Pred.ext_refl _ _, rfl⟩
    · intro b X hE hd hn hV
      have r127 : b.tmps[127]?.getD undef = .bool true := hV 47 _ 127 rfl rfl (Pred.waits_near (by kernel_rfl) (by kernel_rfl))
      refine Pred.yields_call (f := 13) (args := #[.int .i64 0]) ((Pred.wanted_at (g := 47) (d := 127) (f := true) rfl rfl r127).trans rfl) (by go_simp) ?_
      have C := sectors_any 0 (by decide) X
      rw [n8] at C
      exact C.mono fun e w2 ⟨he, hb⟩ => ⟨_, he, Pred.ext_below hb hE.size, rfl⟩
    · intro b X hE hd hn hV
      have r128 : b.tmps[128]?.getD undef = .int .i64 0 := hV 48 _ 128 rfl rfl (Pred.waits_near (by kernel_rfl) (by kernel_rfl))
      have r127 : b.tmps[127]?.getD undef = .bool true := hV 47 _ 127 rfl rfl (Pred.waits_near (by kernel_rfl) (by kernel_rfl))
      exact Pred.yields_run (v := .bool true) ((Pred.wanted_at (g := 47) (d := 127) (f := true) rfl rfl r127).trans rfl) (by go_simp) ⟨Pred.ext_refl _ _, rfl⟩
    · intro b X hE hd hn hV
      have r127 : b.tmps[127]?.getD undef = .bool true := hV 47 _ 127 rfl rfl (Pred.waits_near (by kernel_rfl) (by kernel_rfl))
      have r129 : b.tmps[129]?.getD undef = .bool true := hV 49 _ 129 rfl rfl (Pred.waits_near (by kernel_rfl) (by kernel_rfl))
      exact Pred.yields_run (v := .bool true) (Pred.wanted_none rfl) (by go_simp) ⟨Pred.ext_refl _ _, rfl⟩
    · intro b X hE hd hn hV
      have r130 : b.tmps[130]?.getD undef = .bool true := hV 50 _ 130 rfl rfl (Pred.waits_near (by kernel_rfl) (by kernel_rfl))
      exact Pred.yields_run (v := .bool true) (Pred.wanted_none rfl) (by go_simp) ⟨Pred.ext_refl _ _, rfl⟩
    · intro b X hE hd hn hV
      have r17 : b.tmps[17]?.getD undef = .pointer none := (hn 17 (by kernel_rfl)).trans rfl
      have r131 : b.tmps[131]?.getD undef = .bool true := hV 51 _ 131 rfl rfl (Pred.waits_near (by kernel_rfl) (by kernel_rfl))
      exact Pred.yields_run (v := .pointer none) ((Pred.wanted_at (g := 51) (d := 131) (f := true) rfl rfl r131).trans rfl) (by go_simp) ⟨Pred.ext_refl _ _, rfl⟩
    · intro b X hE hd hn hV
      have r132 : b.tmps[132]?.getD undef = .pointer none := hV 52 _ 132 rfl rfl (Pred.waits_near (by kernel_rfl) (by kernel_rfl))
      have r131 : b.tmps[131]?.getD undef = .bool true := hV 51 _ 131 rfl rfl (Pred.waits_near (by kernel_rfl) (by kernel_rfl))
      refine Pred.yields_call (f := 22) (args := #[.pointer none]) ((Pred.wanted_at (g := 51) (d := 131) (f := true) rfl rfl r131).trans rfl) (by go_simp) ?_
      have C := len_nil X
      exact C.mono fun e w2 ⟨he, hb⟩ => ⟨_, he, hb ▸ Pred.ext_refl _ _, rfl⟩
    · intro b X hE hd hn hV
      have r133 : b.tmps[133]?.getD undef = .int .i64 0 := hV 53 _ 133 rfl rfl (Pred.waits_near (by kernel_rfl) (by kernel_rfl))
      have r131 : b.tmps[131]?.getD undef = .bool true := hV 51 _ 131 rfl rfl (Pred.waits_near (by kernel_rfl) (by kernel_rfl))
      exact Pred.yields_run (v := .bool true) ((Pred.wanted_at (g := 51) (d := 131) (f := true) rfl rfl r131).trans rfl) (by go_simp) ⟨Pred.ext_refl _ _, rfl⟩
    · intro b X hE hd hn hV
      have r131 : b.tmps[131]?.getD undef = .bool true := hV 51 _ 131 rfl rfl (Pred.waits_near (by kernel_rfl) (by kernel_rfl))
      have r134 : b.tmps[134]?.getD undef = .bool true := hV 54 _ 134 rfl rfl (Pred.waits_near (by kernel_rfl) (by kernel_rfl))
      exact Pred.yields_run (v := .bool true) (Pred.wanted_none rfl) (by go_simp) ⟨Pred.ext_refl _ _, rfl⟩
    · intro b X hE hd hn hV
      have r135 : b.tmps[135]?.getD undef = .bool true := hV 55 _ 135 rfl rfl (Pred.waits_near (by kernel_rfl) (by kernel_rfl))
      exact Pred.yields_run (v := .bool true) (Pred.wanted_none rfl) (by go_simp) ⟨Pred.ext_refl _ _, rfl⟩
    · intro b X hE hd hn hV
      have r17 : b.tmps[17]?.getD undef = .pointer none := (hn 17 (by kernel_rfl)).trans rfl
      have r136 : b.tmps[136]?.getD undef = .bool true := hV 56 _ 136 rfl rfl (Pred.waits_near (by kernel_rfl) (by kernel_rfl))
      exact Pred.yields_run (v := .pointer none) ((Pred.wanted_at (g := 56) (d := 136) (f := true) rfl rfl r136).trans rfl) (by go_simp) ⟨Pred.ext_refl _ _, rfl⟩
    · intro b X hE hd hn hV
      have r137 : b.tmps[137]?.getD undef = .pointer none := hV 57 _ 137 rfl rfl (Pred.waits_near (by kernel_rfl) (by kernel_rfl))
      have r136 : b.tmps[136]?.getD undef = .bool true := hV 56 _ 136 rfl rfl (Pred.waits_near (by kernel_rfl) (by kernel_rfl))
      refine Pred.yields_call (f := 21) (args := #[.pointer none]) ((Pred.wanted_at (g := 56) (d := 136) (f := true) rfl rfl r136).trans rfl) (by go_simp) ?_
      have C := bytes_nil X
      exact C.mono fun e w2 ⟨he, hb⟩ => ⟨_, he, Pred.ext_below hb hE.size, rfl⟩
    · intro b X hE hd hn hV
      have r138 : b.tmps[138]?.getD undef = .slice none 0 0 := hV 58 _ 138 rfl rfl (Pred.waits_near (by kernel_rfl) (by kernel_rfl))
      have r136 : b.tmps[136]?.getD undef = .bool true := hV 56 _ 136 rfl rfl (Pred.waits_near (by kernel_rfl) (by kernel_rfl))
      exact Pred.yields_run (v := .int .i64 0) ((Pred.wanted_at (g := 56) (d := 136) (f := true) rfl rfl r136).trans rfl) (by go_simp) ⟨Pred.ext_refl _ _, rfl⟩
    · intro b X hE hd hn hV
      have r139 : b.tmps[139]?.getD undef = .int .i64 0 := hV 59 _ 139 rfl rfl (Pred.waits_near (by kernel_rfl) (by kernel_rfl))
      have r136 : b.tmps[136]?.getD undef = .bool true := hV 56 _ 136 rfl rfl (Pred.waits_near (by kernel_rfl) (by kernel_rfl))
      exact Pred.yields_run (v := .bool true) ((Pred.wanted_at (g := 56) (d := 136) (f := true) rfl rfl r136).trans rfl) (by go_simp) ⟨Pred.ext_refl _ _, rfl⟩
    · intro b X hE hd hn hV
      have r136 : b.tmps[136]?.getD undef = .bool true := hV 56 _ 136 rfl rfl (Pred.waits_near (by kernel_rfl) (by kernel_rfl))
      have r140 : b.tmps[140]?.getD undef = .bool true := hV 60 _ 140 rfl rfl (Pred.waits_near (by kernel_rfl) (by kernel_rfl))
      exact Pred.yields_run (v := .bool true) (Pred.wanted_none rfl) (by go_simp) ⟨Pred.ext_refl _ _, rfl⟩
    · intro b X hE hd hn hV
      have r141 : b.tmps[141]?.getD undef = .bool true := hV 61 _ 141 rfl rfl (Pred.waits_near (by kernel_rfl) (by kernel_rfl))
      exact Pred.yields_run (v := .bool true) (Pred.wanted_none rfl) (by go_simp) ⟨Pred.ext_refl _ _, rfl⟩
  intro v X hE hv
  have e0 : v 0 = .int .i64 1 := hv 0 _ 80 rfl rfl
  have e1 : v 1 = .bool true := hv 1 _ 81 rfl rfl
  have e2 : v 2 = .bool true := hv 2 _ 82 rfl rfl
  have e3 : v 3 = .pointer (some ⟨b1, 0, none⟩) := hv 3 _ 83 rfl rfl
  obtain ⟨ga4, ca4, e4, hr4, hc4⟩ : SE [eA, eB] (v 4) X := hv 4 _ 84 rfl rfl
  have e5 : v 5 = .agg eA.c := hv 5 _ 85 rfl rfl
  have e6 : v 6 = .agg eB.c := hv 6 _ 86 rfl rfl
  obtain ⟨ga7, ca7, e7, hr7, hc7⟩ : SE [eA, eB] (v 7) X := hv 7 _ 87 rfl rfl
  have e8 : v 8 = .bool true := hv 8 _ 88 rfl rfl
  have e9 : v 9 = .bool true := hv 9 _ 89 rfl rfl
  have e10 : v 10 = .bool true := hv 10 _ 90 rfl rfl
  have e11 : v 11 = .bool true := hv 11 _ 91 rfl rfl
  have e12 : v 12 = .bool true := hv 12 _ 92 rfl rfl
  have e13 : v 13 = .bool true := hv 13 _ 93 rfl rfl
  have e14 : v 14 = .agg eB.c := hv 14 _ 94 rfl rfl
  have e15 : v 15 = .agg eB.c := hv 15 _ 95 rfl rfl
  have e16 : v 16 = .bool true := hv 16 _ 96 rfl rfl
  have e17 : v 17 = .bool true := hv 17 _ 97 rfl rfl
  have e18 : v 18 = .bool true := hv 18 _ 98 rfl rfl
  have e19 : v 19 = .bool true := hv 19 _ 99 rfl rfl
  have e20 : v 20 = .bool true := hv 20 _ 100 rfl rfl
  have e21 : v 21 = .bool true := hv 21 _ 101 rfl rfl
  have e22 : v 22 = .pointer (some ⟨X6.heap.size, 3, none⟩) := hv 22 _ 102 rfl rfl
  have e23 : v 23 = .int .i64 9 := hv 23 _ 103 rfl rfl
  have e24 : v 24 = .bool true := hv 24 _ 104 rfl rfl
  have e25 : v 25 = .bool true := hv 25 _ 105 rfl rfl
  have e26 : v 26 = .bool true := hv 26 _ 106 rfl rfl
  have e27 : v 27 = .int .i64 0 := hv 27 _ 107 rfl rfl
  have e28 : v 28 = .bool true := hv 28 _ 108 rfl rfl
  have e29 : v 29 = .bool true := hv 29 _ 109 rfl rfl
  have e30 : v 30 = .bool true := hv 30 _ 110 rfl rfl
  have e31 : v 31 = .pointer (some ⟨b9, 0, none⟩) := hv 31 _ 111 rfl rfl
  have e32 : v 32 = .bool true := hv 32 _ 112 rfl rfl
  have e33 : v 33 = .bool true := hv 33 _ 113 rfl rfl
  have e34 : v 34 = .bool true := hv 34 _ 114 rfl rfl
  have e35 : v 35 = .pointer (some ⟨b9, 0, none⟩) := hv 35 _ 115 rfl rfl
  have e36 : v 36 = .int .i64 2 := hv 36 _ 116 rfl rfl
  have e37 : v 37 = .bool true := hv 37 _ 117 rfl rfl
  have e38 : v 38 = .bool true := hv 38 _ 118 rfl rfl
  have e39 : v 39 = .bool true := hv 39 _ 119 rfl rfl
  have e40 : v 40 = .int .i64 3 := hv 40 _ 120 rfl rfl
  have e41 : v 41 = .bool true := hv 41 _ 121 rfl rfl
  have e42 : v 42 = .bool true := hv 42 _ 122 rfl rfl
  have e43 : v 43 = .bool true := hv 43 _ 123 rfl rfl
  have e44 : v 44 = .int .i64 2 := hv 44 _ 124 rfl rfl
  have e45 : v 45 = .bool true := hv 45 _ 125 rfl rfl
  have e46 : v 46 = .bool true := hv 46 _ 126 rfl rfl
  have e47 : v 47 = .bool true := hv 47 _ 127 rfl rfl
  have e48 : v 48 = .int .i64 0 := hv 48 _ 128 rfl rfl
  have e49 : v 49 = .bool true := hv 49 _ 129 rfl rfl
  have e50 : v 50 = .bool true := hv 50 _ 130 rfl rfl
  have e51 : v 51 = .bool true := hv 51 _ 131 rfl rfl
  have e52 : v 52 = .pointer none := hv 52 _ 132 rfl rfl
  have e53 : v 53 = .int .i64 0 := hv 53 _ 133 rfl rfl
  have e54 : v 54 = .bool true := hv 54 _ 134 rfl rfl
  have e55 : v 55 = .bool true := hv 55 _ 135 rfl rfl
  have e56 : v 56 = .bool true := hv 56 _ 136 rfl rfl
  have e57 : v 57 = .pointer none := hv 57 _ 137 rfl rfl
  have e58 : v 58 = .slice none 0 0 := hv 58 _ 138 rfl rfl
  have e59 : v 59 = .int .i64 0 := hv 59 _ 139 rfl rfl
  have e60 : v 60 = .bool true := hv 60 _ 140 rfl rfl
  have e61 : v 61 = .bool true := hv 61 _ 141 rfl rfl
  have e62 : v 62 = .bool true := hv 62 _ 0 rfl rfl
  simp only [Pred.putsF_cons, Pred.putsF_nil, Nat.zero_add, Nat.reduceAdd, e0, e1, e2, e3, e4, e5, e6, e7, e8, e9, e10, e11, e12, e13, e14, e15, e16, e17, e18, e19, e20, e21, e22, e23, e24, e25, e26, e27, e28, e29, e30, e31, e32, e33, e34, e35, e36, e37, e38, e39, e40, e41, e42, e43, e44, e45, e46, e47, e48, e49, e50, e51, e52, e53, e54, e55, e56, e57, e58, e59, e60, e61, e62, Act.put, List.setIfInBounds_toArray, List.set_cons_zero, List.set_cons_succ]
  clear e0 e1 e2 e3 e4 e5 e6 e7 e8 e9 e10 e11 e12 e13 e14 e15 e16 e17 e18 e19 e20 e21 e22 e23 e24 e25 e26 e27 e28 e29 e30 e31 e32 e33 e34 e35 e36 e37 e38 e39 e40 e41 e42 e43 e44 e45 e46 e47 e48 e49 e50 e51 e52 e53 e54 e55 e56 e57 e58 e59 e60 e61 e62 hv
  have L12 : Below w.heap.size w X := L11.trans (hE.mono L11.size)
  clear hE
  go_wp2
  go_ret
  exact ⟨rfl, L12⟩
end Go.Proofs.Ytpjbacpchmemeaa.DiY
