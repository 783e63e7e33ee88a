/-
  QueueOrder.
-/
import Derived.Test.YtpbdgkjlmijipaaQuS0
namespace Go.Proofs.Ytpbdgkjlmijipaa.QuS
open Go.RowKit Go.Shelf Rd Go.Proofs.Ytpbdgkjlmijipaa.Row Mid PgM PgA PgB PgC QuA QuB QuC QuD QuE QuF QuG QuH QuI QuJ QuK QuN QuO QuP QuS0
open QuQ (Pgs pgs_ne_of eqL_refl)
open PgN (page_key keyL key_valid)
open Go.Proofs.Ytpbdgkjlmijipaa.Num (ret_int ret_bool)
set_option linter.unusedVariables false
set_option linter.unusedSimpArgs false
set_option maxRecDepth 10000
attribute [local go_sem high] run_minT run_maxT
attribute [local go_sem ↓] store_pg load_w store_w eq_pg3 eq_w4
attribute [local go_sem] eqL_refl one_int pc3 pc4 pc43 run_store_pg run_load_w run_store_w midLoad_eq rowLoad_eq rowStore_eq blk_alloc_at blk_alloc_old blk_drew blk_drewN blk_set_far blk_set_far' blk_grow setRow_alloc_at setRow_alloc_old setRow_drew setRow_drewN
theorem wf_bd {a : Int} (h : (Lit.int .i64 a).wf = true) : -9223372036854775808 ≤ a ∧ a ≤ 9223372036854775807 := by
  have := bounds_i64 h
  exact this
structure Oc (w X : World) (t most d : Nat) (v : Value) (r : PgM.Row) (ga o B : Nat) : Prop where
  low : Below w.heap.size w X
  q : Qu X t 0 most d v r
  inv : Inv d r
  len : r.length ≤ most
  lt : (w.heap.size ≤ t ∧ t < B ∧ ga < B ∧ ga ≠ t) ∧ B ≤ X.heap.size
  lv : ∀ k, v.ownBlock = some k → B ≤ k
  pgs : Pgs X ga o d
section
variable {w X Y : World} {t most d : Nat} {v v' : Value} {r r' : PgM.Row} {ga o B : Nat}
theorem Oc.bel (h : Oc w X t most d v r ga o B) (hb : Below X.heap.size X Y) : Oc w Y t most d v r ga o B :=
  ⟨h.low.trans (hb.mono h.low.size), h.q.bel hb, h.inv, h.len, ⟨h.lt.1, Nat.le_trans h.lt.2 hb.size⟩, h.lv, h.pgs.below hb⟩
theorem Oc.turn (h : Oc w X t most d v r ga o B) (hq : Qu Y t 0 most d v' r') (ht : TnB X Y t v) (ha : At X v v') (hi : Inv d r') (hl : r'.length ≤ most) : Oc w Y t most d v' r' ga o B := by
  obtain ⟨⟨l1, l2, l3, l4⟩, l5⟩ := h.lt
  refine ⟨tn_low h.low ht (by omega) (fun k e => by have := h.lv k e; omega), hq, hi, hl, ⟨⟨l1, l2, l3, l4⟩, Nat.le_trans l5 ht.size⟩, fun k e => ?_, h.pgs.kept ht.size ?_⟩
  · rcases ha with e2 | ⟨j, e2, hj⟩
    · exact h.lv k (e2 ▸ e)
    · rw [e2] at e
      injection e with e
      omega
  · exact ht.block ga h.pgs.lt (by omega) (fun e => by have := h.lv _ e.symm; omega)
end
set_option maxHeartbeats 16000000 in
theorem order_gen (a0 a1 : Int) (ai : Option Addr) (len cap : Nat) (zs : List Int) (w : World) (hb1 : -9223372036854775808 ≤ a1) (hb2 : a1 ≤ 9223372036854775807)
    (hz : ∀ z ∈ zs, Ints.In64 z) (hzl : zs.length = len * 2) (hR : Reads w 2 ai len (Ints.i64s zs)) :
    Calls Try.prog 5 #[.int .i64 a0, .int .i64 a1, .slice ai len cap] w fun e w' => e = .returned (.bool true) ∧ Below w.heap.size w w' := by
  have HR := Lib.hid hR
  have HZ := Lib.hid hz
  have HZL := Lib.hid hzl
  clear hR hz hzl
  go_enter Try.func5, Try.ntmps5
  go_wp2_with fail
  refine (Alk.round_any a1 4 _ hb1 hb2 (by decide) (by decide)).mono ?_
  rintro e w0 ⟨rfl, rfl⟩
  obtain ⟨d, ed⟩ : ∃ n : Nat, a1 % 4 = n := ⟨(a1 % 4).toNat, by omega⟩
  have hd : d ≤ 3 := by omega
  rw [ed]
  clear ed hb1 hb2
  by_cases hgood : 1 ≤ a0 ∧ a0 ≤ 60 ∧ (len : Int) ≤ 60
  rotate_left
  · obtain ⟨q, eq⟩ : ∃ q, decide (a0 < 1) = q := ⟨_, rfl⟩
    obtain ⟨q', eq'⟩ : ∃ q, decide ((60 : Int) < a0) = q := ⟨_, rfl⟩
    obtain ⟨q2, eq2⟩ : ∃ q, decide ((60 : Int) < (len : Int)) = q := ⟨_, rfl⟩
    have hor : (q || q' || q2) = true := by
      rw [← eq, ← eq', ← eq2]
      simp
      omega
    have eq2n : decide (60 < len) = q2 := by rw [← eq2]; simp; omega
    clear hgood
    cases q <;> cases q' <;> cases q2 <;> first | (exact absurd hor (by decide)) | skip
    all_goals
      clear hor
      go_wp2_with fail
      refine (awake_any _).mono ?_
      rintro e w9 ⟨rfl, hb⟩
      go_wp2
      go_ret
      exact ⟨rfl, hb⟩
  obtain ⟨g1, g2, g3⟩ := hgood
  obtain ⟨most, em⟩ : ∃ n : Nat, a0 = n := ⟨a0.toNat, by omega⟩
  subst em
  have hm1 : 1 ≤ most := by omega
  have hm2 : most ≤ 60 := by omega
  have hl60 : len ≤ 60 := by omega
  have d1 : decide ((most : Int) < 1) = false := decide_eq_false (by omega)
  have d1n : decide (most < 1) = false := decide_eq_false (by omega)
  have d2 : decide ((60 : Int) < (most : Int)) = false := decide_eq_false (by omega)
  have d2n : decide (60 < most) = false := decide_eq_false (by omega)
  have d3 : decide ((60 : Int) < (len : Int)) = false := decide_eq_false (by omega)
  have d3n : decide (60 < len) = false := decide_eq_false (by omega)
  clear g1 g2 g3
  go_wp2_with fail
  refine (new_any most d ⟨hm1, by omega⟩ hd _).mono ?_
  rintro e w3 ⟨⟨t, rfl, ht, hq3⟩, hb3⟩
  clear d1 d1n d2 d2n d3 d3n
  go_wp2_with fail
  refine (rpages_any d _).mono ?_
  rintro e w4 ⟨⟨adp, cp, rfl, -, -, hP⟩, hb4⟩
  have hpos : 0 < (allV (d : Int)).length := by
    have : d = 0 ∨ d = 1 ∨ d = 2 ∨ d = 3 := by omega
    rcases this with rfl | rfl | rfl | rfl <;> decide +kernel
  have hsm := all_small (d : Int)
  obtain ⟨ga, o, ea, hb0, hc⟩ : ∃ ga o, adp = some ⟨ga, o, none⟩ ∧ ga < w4.heap.size ∧ ∀ i, i < (allV (d : Int)).length → ∀ j, j < 3 → w4.cell? ⟨ga, o + i * 3 + j, none⟩ = some (.int .i64 (PgM.g (at_ (allV (d : Int)) i) j)) := by
    rcases hP.2 with h | h
    · rw [h] at hpos; simp at hpos
    · exact h
  subst ea
  have HP4 : Pgs w4 ga o d := ⟨hb0, hc⟩
  have hq4 := hq3.bel hb4
  have L4 : Below w.heap.size w w4 := hb3.trans (hb4.mono hb3.size)
  have HA : Hid (Oc w w4 t most d (.slice none 0 0) [] ga o w4.heap.size) := Lib.hid
    ⟨L4, hq4, Inv.nil d, by simp, ⟨⟨ht, hq4.lt, hb0, pgs_ne_of HP4 hd hq4.t (fun z e => (by cases e))⟩, Nat.le_refl _⟩, fun k e => (by cases e), HP4⟩
  obtain ⟨N, hN⟩ : ∃ N, (allV (d : Int)).length = N := ⟨_, rfl⟩
  rw [hN] at hpos hsm ⊢
  have HN := Lib.hid hN
  obtain ⟨B, hB⟩ : ∃ B, w4.heap.size = B := ⟨_, rfl⟩
  rw [hB] at HA
  have HD3 := Lib.hid hd
  clear hb4 hP hc hb0 hq3 hb3 hN L4 HP4 hq4 hB ht
  go_wp2_with fail
  go_loopw [11] (fun i X => ∃ (k : Nat) (v : Value) (r : PgM.Row), k ≤ len ∧ i = .int .i64 k ∧ Hid (Oc w X t most d v r ga o B)) (fun i _ => len - (intOf i).toNat)
  case atStart => exact ⟨0, _, _, by omega, rfl, HA⟩
  case round =>
    clear HA
    obtain ⟨k, v, r, hk, rfl, HA⟩ := hrel
    rename World => X
    by_cases hlt : k < len
    rotate_left
    · obtain rfl : k = len := by omega
      have HLW := Lib.hid HA.out.low
      clear HA
      go_wp2_with fail
      refine (awake_any _).mono ?_
      rintro e w9 ⟨rfl, hb⟩
      have hlow := HLW.out.trans (hb.mono HLW.out.size)
      clear hb
      go_wp2
      go_ret
      exact ⟨rfl, hlow⟩
    have hlt' : (k : Int) < len := by omega
    obtain ⟨ab, ao, rfl, hab, hac⟩ := Ints.cell_of HR.out (k := k * 2) (by rw [HZL.out]; omega) (by omega)
    have hcell0 := (HA.out.low.cell (p := ⟨ab, ao + k * 2, none⟩) hab).trans (hac (k * 2) (by rw [HZL.out]; omega))
    obtain ⟨z0, ez0⟩ : ∃ z, zs.getD (k * 2) 0 = z := ⟨_, rfl⟩
    obtain ⟨z1, ez1⟩ : ∃ z, zs.getD (k * 2 + 1) 0 = z := ⟨_, rfl⟩
    have hzz := Ints.getD_in HZ.out (k * 2)
    have hz1 := Ints.getD_in HZ.out (k * 2 + 1)
    have HC1 : Hid (∀ Y : World, Below w.heap.size w Y → Y.cell? ⟨ab, ao + k * 2 + 1, none⟩ = some (.int .i64 z1)) := Lib.hid fun Y hY => by
      rw [← ez1]
      exact (hY.cell (p := ⟨ab, ao + k * 2 + 1, none⟩) hab).trans (hac (k * 2 + 1) (by rw [HZL.out]; omega))
    rw [ez0] at hcell0 hzz
    rw [ez1] at hz1
    have HZ1 := Lib.hid hz1
    clear ez0 ez1 hac hz1
    go_wp2_with fail
    refine (Alk.round_any z0 N _ hzz.1 hzz.2 (by omega) (by omega)).mono ?_
    rintro e w5 ⟨rfl, rfl⟩
    obtain ⟨kk, ek⟩ : ∃ k : Nat, z0 % N = k := ⟨(z0 % N).toNat, by have := Int.emod_nonneg z0 (b := (N : Int)) (by omega); omega⟩
    have hkk : kk < N := by have := Int.emod_lt_of_pos z0 (b := (N : Int)) (by omega); omega
    rw [ek]
    obtain ⟨y0, y1, y2, eX, eK⟩ := page_key hd (show kk < (allV (d : Int)).length by rw [HN.out]; exact hkk)
    have hv := key_valid eK
    obtain ⟨c0, c1, c2⟩ := HA.out.pgs.three (by rw [HN.out]; exact hkk) eX
    have hkk' : (kk : Int) < N := by omega
    have HV := Lib.hid hv
    clear ek eX eK hcell0 hv
    go_upto_region 13 with (fail)
    refine Rd.name_world ?_
    intro w6 hw
    have bG : blk w6 X.heap.size = some (.cells #[.int .i64 y0, .int .i64 y1, .int .i64 y2] 24 (0, 0)) := by rw [hw]; exact blk_alloc_at _ _ _ rfl
    have hb : Below X.heap.size X w6 := by
      rw [hw]
      repeat' (first | (with_reducible exact Below.refl _ _) | (with_reducible refine Rd.below_step ?_ (by assumption)) | (with_reducible refine Rd.below_alloc ?_ _) | (with_reducible refine Rd.below_drewN ?_ _) | (with_reducible refine Below.drew ?_) | (with_reducible refine Below.setCell ?_ ?_ _) | (with_reducible refine Rd.below_setRow ?_ ?_ _) | go_size | (simp only [World.size_alloc]; omega) | omega)
    obtain ⟨pg, hpg⟩ : ∃ p, X.heap.size = p := ⟨_, rfl⟩
    have hpB : B ≤ pg := by have := HA.out.lt.2; omega
    rw [hpg] at bG ⊢
    have HA6 := Lib.hid (HA.out.bel hb)
    have hrs : r.length ≤ 100000 := by have := HA.out.len; omega
    clear hw hpg c0 c1 c2 hkk' hkk hzz HA hb
    go_wp2_with fail
    refine (lall_any' t most d v r (-1) w6 HA6.out.q hrs).mono ?_
    rw [cut_m1]
    rintro e w7 ⟨⟨aw, cw, rfl, hr7, -⟩, hb⟩
    have HA7 := Lib.hid (HA6.out.bel hb)
    have bG7 : blk w7 pg = some (.cells #[.int .i64 y0, .int .i64 y1, .int .i64 y2] 24 (0, 0)) := (blk_below hb _ (blk_lt bG)).trans bG
    have HR7 := Lib.hid hr7
    clear hb bG HA6 hr7
    go_wp2_with fail
    go_loopw [13, 15] (fun h i Y => ∃ j : Nat, j ≤ r.length ∧ i = .int .i64 j ∧ h = .int .i64 (hadV (r.take j) [y0, y1, y2]) ∧ Below w7.heap.size w7 Y) (fun _ i _ => r.length - (intOf i).toNat)
    case atStart => exact ⟨0, by omega, rfl, rfl, Below.refl _ _⟩
    case round =>
      obtain ⟨j, hj, rfl, rfl, hb⟩ := hrel
      rename World => Y
      by_cases hjl : j < r.length
      · have hji : (j : Int) < (r.length : Int) := by omega
        obtain ⟨b, o9, rfl⟩ := RwAt.some HR7.out (fun e => by rw [e] at hjl; exact absurd hjl (by simp))
        obtain ⟨hbl, hcc⟩ := RwAt.cells (HR7.out.bel hb) hjl
        obtain ⟨x0, x1, x2, x3, ex⟩ := len4 (HR7.out.1 (at_ r j) (by rw [at_eq hjl]; exact List.getElem_mem _))
        have HS := Lib.hid (had_step (pg := [y0, y1, y2]) hjl)
        rw [ex] at hcc HS
        have k0 : Y.cell? ⟨b, o9 + j * 4, none⟩ = some (.int .i64 x0) := hcc 0 (by omega)
        have k1 : Y.cell? ⟨b, o9 + j * 4 + 1, none⟩ = some (.int .i64 x1) := hcc 1 (by omega)
        have k2 : Y.cell? ⟨b, o9 + j * 4 + 2, none⟩ = some (.int .i64 x2) := hcc 2 (by omega)
        have k3 : Y.cell? ⟨b, o9 + j * 4 + 3, none⟩ = some (.int .i64 x3) := hcc 3 (by omega)
        have bGY := (blk_below hb _ (blk_lt bG7)).trans bG7
        have m0 := Go.cell_regrown k0
        have m1 := Go.cell_regrown k1
        have m2 := Go.cell_regrown k2
        have p0 := Go.cell_regrown (show Y.cell? ⟨pg, 0, none⟩ = some (.int .i64 y0) by rw [blk_cell bGY]; rfl)
        have p1 := Go.cell_regrown (show Y.cell? ⟨pg, 1, none⟩ = some (.int .i64 y1) by rw [blk_cell bGY]; rfl)
        have p2 := Go.cell_regrown (show Y.cell? ⟨pg, 2, none⟩ = some (.int .i64 y2) by rw [blk_cell bGY]; rfl)
        clear ex hcc k0 k1 k2 bGY
        go_upto_region 17 with (fail)
        (refine wp_region_quiet_below (by kernel_rfl) (by kernel_rfl) ?_; (repeat (go_big_quiet_step ((fail)))); refine wpQuiet_nil ?_)
        intro w8 hU
        have KU := Rd.below_of_regrown hU
        have L8 := hb.trans (KU.mono hb.size)
        have k38 : w8.cell? ⟨b, o9 + j * 4 + 3, none⟩ = some (.int .i64 x3) := (KU.cell (p := ⟨b, o9 + j * 4 + 3, none⟩) hbl).trans k3
        clear hU KU m0 m1 m2 p0 p1 p2 k3
        by_cases hpe : pgOf [x0, x1, x2, x3] = [y0, y1, y2]
        · have he : eqL [x0, x1, x2] [y0, y1, y2] = true := decide_eq_true hpe
          have HS2 : Hid (hadV (r.take (j + 1)) [y0, y1, y2] = x3) := Lib.hid (by rw [HS.out, if_pos hpe]; rfl)
          rw [he]
          go_wp2
          go_roundw
          case rel => exact ⟨j + 1, by omega, by go_num, by rw [HS2.out], L8⟩
          case measure => simp [intOf]; omega
        · have he : eqL [x0, x1, x2] [y0, y1, y2] = false := decide_eq_false hpe
          have HS2 : Hid (hadV (r.take (j + 1)) [y0, y1, y2] = hadV (r.take j) [y0, y1, y2]) := Lib.hid (by rw [HS.out, if_neg hpe])
          rw [he]
          go_wp2
          go_roundw
          case rel => exact ⟨j + 1, by omega, by go_num, by rw [HS2.out], L8⟩
          case measure => simp [intOf]; omega
      · obtain rfl : j = r.length := by omega
        rw [List.take_length]
        obtain ⟨hd0, ehd⟩ : ∃ z, hadV r [y0, y1, y2] = z := ⟨_, rfl⟩
        rw [ehd]
        have EHD := Lib.hid ehd
        have HA8 := Lib.hid (HA7.out.bel hb)
        have bGY := (blk_below hb _ (blk_lt bG7)).trans bG7
        have hcl := HC1.out Y HA8.out.low
        clear ehd HA7 HR7 bG7 hb
        go_wp2_with fail
        refine (Alk.round_any z1 20 _ HZ1.out.1 HZ1.out.2 (by decide) (by decide)).mono ?_
        rintro e w9 ⟨rfl, rfl⟩
        obtain ⟨p, ep⟩ : ∃ p : Nat, 1 + z1 % 20 = p := ⟨(1 + z1 % 20).toNat, by have := Int.emod_nonneg z1 (b := 20) (by omega); omega⟩
        have hp1 : (1 : Int) ≤ p := by have := Int.emod_nonneg z1 (b := 20) (by omega); omega
        have hp2 : (p : Int) ≤ 20 := by have := Int.emod_lt_of_pos z1 (b := 20) (by omega); omega
        have hwp : wrap64 (1 + z1 % 20) = (p : Int) := by unfold wrap64; omega
        have hwp2 : IntKind.i64.wrap (1 + z1 % 20) = (p : Int) := by rw [IntKind.wrap_i64]; omega
        clear hcl
        go_upto_region 20 with (fail)
        have p0 : Y.cell? ⟨pg, 0, none⟩ = some (.int .i64 y0) := by rw [blk_cell bGY]; rfl
        have p1 : Y.cell? ⟨pg, 1, none⟩ = some (.int .i64 y1) := by rw [blk_cell bGY]; rfl
        have p2 : Y.cell? ⟨pg, 2, none⟩ = some (.int .i64 y2) := by rw [blk_cell bGY]; rfl
        go_wp2_with fail
        refine (add_in t most d v r y0 y1 y2 p Y HA8.out.q HV.out hp1 hm1 hrs).mono ?_
        rintro e W ⟨ao9, co9, v1, rfl, -, hq1, ht1, ha1, -⟩
        have htold := told HD3.out HA8.out.inv HA8.out.len (pg := [y0, y1, y2]) rfl HV.out hp1
        obtain ⟨hi1, hl1⟩ := new_inv (most := most) HD3.out HA8.out.inv (pg := [y0, y1, y2]) rfl HV.out hp1
        have HA9 := Lib.hid (HA8.out.turn hq1 ht1 ha1 hi1 hl1)
        have bGW : blk W pg = some (.cells #[.int .i64 y0, .int .i64 y1, .int .i64 y2] 24 (0, 0)) := (ht1.block pg (blk_lt bGY) (by have := HA8.out.lt; omega) (QuQ.pg_not_own HA8.out.q bGY)).trans bGY
        have hto := htold.ok
        have htf := htold.full
        have hte := htold.err
        have ht9 := htold.one
        have hth := htold.had
        rw [EHD.out] at hto htf hth
        clear hq1 ht1 ha1 htold hi1 hwp hwp2 p0 p1 p2 bGY HA8
        obtain ⟨r1, er1⟩ : ∃ z, newQ most d r [y0, y1, y2] p = z := ⟨_, rfl⟩
        obtain ⟨er, eer⟩ : ∃ z, errQ most d r [y0, y1, y2] p = z := ⟨_, rfl⟩
        obtain ⟨lo, elo⟩ : ∃ z, (outQ most d r [y0, y1, y2] p).length = z := ⟨_, rfl⟩
        rw [er1] at HA9 hto htf hl1
        rw [eer] at hto htf hte ⊢
        rw [elo] at ht9 hth ⊢
        have HTO := Lib.hid hto
        have HTF := Lib.hid htf
        have HTE := Lib.hid hte
        have HT9 := Lib.hid ht9
        have HTH := Lib.hid hth
        have hrs1 : r1.length ≤ 100000 := by omega
        clear er1 eer elo hto htf hte ht9 hth
        go_wp2_with fail
        refine (lall_any' t most d v1 r1 (-1) W HA9.out.q hrs1).mono ?_
        rw [cut_m1]
        rintro e w10 ⟨⟨an, cn, rfl, hr10, -⟩, hb⟩
        have HA10 := Lib.hid (HA9.out.bel hb)
        have bG10 : blk w10 pg = some (.cells #[.int .i64 y0, .int .i64 y1, .int .i64 y2] 24 (0, 0)) := (blk_below hb _ (blk_lt bGW)).trans bGW
        have HR10 := Lib.hid hr10
        have HIN := Lib.hid HA9.out.inv
        clear hb bGW HA9 hr10
        go_wp2_with fail
        go_loopw [20, 21] (fun h i Z => ∃ j : Nat, j ≤ r1.length ∧ i = .int .i64 j ∧ h = .int .i64 (hadV (r1.take j) [y0, y1, y2]) ∧ Below w10.heap.size w10 Z) (fun _ i _ => r1.length - (intOf i).toNat)
        case atStart => exact ⟨0, by omega, rfl, rfl, Below.refl _ _⟩
        case round =>
          obtain ⟨j, hj, rfl, rfl, hb⟩ := hrel
          rename World => Z
          by_cases hjl : j < r1.length
          · have hji : (j : Int) < (r1.length : Int) := by omega
            obtain ⟨b, o9, rfl⟩ := RwAt.some HR10.out (fun e => by rw [e] at hjl; exact absurd hjl (by simp))
            obtain ⟨hbl, hcc⟩ := RwAt.cells (HR10.out.bel hb) hjl
            obtain ⟨x0, x1, x2, x3, ex⟩ := len4 (HR10.out.1 (at_ r1 j) (by rw [at_eq hjl]; exact List.getElem_mem _))
            have HS := Lib.hid (had_step (pg := [y0, y1, y2]) hjl)
            have HEX := Lib.hid ex
            rw [ex] at hcc HS
            have k0 : Z.cell? ⟨b, o9 + j * 4, none⟩ = some (.int .i64 x0) := hcc 0 (by omega)
            have k1 : Z.cell? ⟨b, o9 + j * 4 + 1, none⟩ = some (.int .i64 x1) := hcc 1 (by omega)
            have k2 : Z.cell? ⟨b, o9 + j * 4 + 2, none⟩ = some (.int .i64 x2) := hcc 2 (by omega)
            have k3 : Z.cell? ⟨b, o9 + j * 4 + 3, none⟩ = some (.int .i64 x3) := hcc 3 (by omega)
            have bGY := (blk_below hb _ (blk_lt bG10)).trans bG10
            have m0 := Go.cell_regrown k0
            have m1 := Go.cell_regrown k1
            have m2 := Go.cell_regrown k2
            have p0 := Go.cell_regrown (show Z.cell? ⟨pg, 0, none⟩ = some (.int .i64 y0) by rw [blk_cell bGY]; rfl)
            have p1 := Go.cell_regrown (show Z.cell? ⟨pg, 1, none⟩ = some (.int .i64 y1) by rw [blk_cell bGY]; rfl)
            have p2 := Go.cell_regrown (show Z.cell? ⟨pg, 2, none⟩ = some (.int .i64 y2) by rw [blk_cell bGY]; rfl)
            have HK := Lib.hid (And.intro k0 (And.intro k1 (And.intro k2 k3)))
            clear ex hcc k0 k1 k2 k3 bGY
            go_upto_region 26 with (fail)
            (refine wp_region_quiet_below (by kernel_rfl) (by kernel_rfl) ?_; (repeat (go_big_quiet_step ((fail)))); refine wpQuiet_nil ?_)
            intro w8 hU
            have KU := Rd.below_of_regrown hU
            have L8 := hb.trans (KU.mono hb.size)
            have HK8 : Hid (∀ m z, Z.cell? ⟨b, m, none⟩ = some z → w8.cell? ⟨b, m, none⟩ = some z) := Lib.hid fun m z h => (KU.cell (p := ⟨b, m, none⟩) hbl).trans h
            have k38 := HK8.out _ _ HK.out.2.2.2
            clear hU KU m0 m1 m2 p0 p1 p2
            go_upto_if 115 with (fail)
            go_cut [20, 115] from 116 to 120 (fun v _ Y => v = .int .i64 (hadV (r1.take (j + 1)) [y0, y1, y2]) ∧ Y = w8)
            case first =>
              by_cases hpe : pgOf [x0, x1, x2, x3] = [y0, y1, y2]
              · have he : eqL [x0, x1, x2] [y0, y1, y2] = true := decide_eq_true hpe
                rw [he]
                go_wp2
                go_meet
                case rel => exact ⟨by rw [HS.out, if_pos hpe]; rfl, rfl⟩
              · have he : eqL [x0, x1, x2] [y0, y1, y2] = false := decide_eq_false hpe
                rw [he]
                go_wp2
                go_meet
                case rel => exact ⟨by rw [HS.out, if_neg hpe], rfl⟩
            case rest =>
            obtain ⟨rfl, e8⟩ := hcut
            subst e8
            clear k38
            rename World => w8
            cases j with
            | zero =>
              clear HK HS
              have z0 : decide ((0 : Int) < 0) = false := by decide
              go_upto_region 28 with (fail)
              (refine wp_region_quiet_below (by kernel_rfl) (by kernel_rfl) ?_; (repeat (go_big_quiet_step ((fail)))); refine wpQuiet_nil ?_)
              intro w9 hU
              have KU := Rd.below_of_regrown hU
              have L9 := L8.trans (KU.mono L8.size)
              clear hU KU
              go_wp2
              go_roundw
              case rel => exact ⟨1, by omega, by go_num, rfl, L9⟩
              case measure => simp [intOf]; omega
            | succ i =>
              have hil : i < r1.length := by omega
              have hii : (i : Int) < (r1.length : Int) := by omega
              obtain ⟨-, hcc⟩ := RwAt.cells (HR10.out.bel hb) hil
              obtain ⟨u0, u1, u2, u3, eu⟩ := len4 (HR10.out.1 (at_ r1 i) (by rw [at_eq hil]; exact List.getElem_mem _))
              have hah := pair_at HIN.out.srt (show i < i + 1 by omega) hjl
              rw [eu] at hcc hah
              rw [HEX.out, ah_def] at hah
              have hah : x3 < u3 ∨ u3 = x3 ∧ keyV d u0 u1 u2 < keyV d x0 x1 x2 := hah
              have CA := Lib.hid (fun W => rkey_any d u0 u1 u2 W)
              have CB := Lib.hid (fun W => rkey_any d x0 x1 x2 W)
              generalize keyV d u0 u1 u2 = ka at hah CA
              generalize keyV d x0 x1 x2 = kb at hah CB
              have m0 := Go.cell_regrown (HK8.out _ _ (show Z.cell? ⟨b, o9 + i * 4, none⟩ = some (.int .i64 u0) from hcc 0 (by omega)))
              have m1 := Go.cell_regrown (HK8.out _ _ (show Z.cell? ⟨b, o9 + i * 4 + 1, none⟩ = some (.int .i64 u1) from hcc 1 (by omega)))
              have m2 := Go.cell_regrown (HK8.out _ _ (show Z.cell? ⟨b, o9 + i * 4 + 2, none⟩ = some (.int .i64 u2) from hcc 2 (by omega)))
              have m3 := Go.cell_regrown (HK8.out _ _ (show Z.cell? ⟨b, o9 + i * 4 + 3, none⟩ = some (.int .i64 u3) from hcc 3 (by omega)))
              have n0 := Go.cell_regrown (HK8.out _ _ HK.out.1)
              have n1 := Go.cell_regrown (HK8.out _ _ HK.out.2.1)
              have n2 := Go.cell_regrown (HK8.out _ _ HK.out.2.2.1)
              have n3 := Go.cell_regrown (HK8.out _ _ HK.out.2.2.2)
              have hpos : (0 : Int) < (i : Int) + 1 := by omega
              have hposd : decide ((0 : Int) < (i : Int) + 1) = true := decide_eq_true hpos
              have hwr : wrap64 (((i + 1 : Nat) : Int) - 1) = (i : Int) := by unfold wrap64; omega
              have hwr2 : IntKind.i64.wrap (((i + 1 : Nat) : Int) - 1) = (i : Int) := by rw [IntKind.wrap_i64]; omega
              have L8H := Lib.hid L8
              obtain ⟨hv9, ehv⟩ : ∃ z, hadV (r1.take (i + 1 + 1)) [y0, y1, y2] = z := ⟨_, rfl⟩
              have EHV := Lib.hid ehv
              rw [ehv]
              clear hcc eu HK HK8 HS HEX L8 hb ehv
              go_upto_region 28 with (fail)
              rcases hah with hlt9 | ⟨rfl, hlt9⟩
              · have e1 : decide (u3 < x3) = false := decide_eq_false (by omega)
                have e2 : decide (u3 = x3) = false := decide_eq_false (by omega)
                have e3 : (u3 == x3) = false := by simp; omega
                clear hlt9
                (refine wp_region_quiet_below (by kernel_rfl) (by kernel_rfl) ?_; (repeat (go_big_quiet_step ((fail)))); refine wpQuiet_nil ?_)
                intro w9 hU
                have KU := Rd.below_of_regrown hU
                have L9 := L8H.out.trans (KU.mono L8H.out.size)
                clear hU KU m0 m1 m2 m3 n0 n1 n2 n3
                go_wp2
                go_roundw
                case rel => exact ⟨i + 1 + 1, by omega, by go_num, by rw [EHV.out], L9⟩
                case measure => simp [intOf]; omega
              · have e1 : decide (u3 < u3) = false := by simp
                have e3 : (u3 == u3) = true := by simp
                have e4 : decide (kb ≤ ka) = false := decide_eq_false (by omega)
                clear hlt9
                (refine wp_region_quiet_below (by kernel_rfl) (by kernel_rfl) ?_; (repeat (go_big_quiet_step ((first | (with_reducible exact Calls.regrown_of (CA.out _)) | (with_reducible exact Calls.regrown_of (CB.out _)))))); refine wpQuiet_nil ?_)
                intro w9 hU
                have KU := Rd.below_of_regrown hU
                have L9 := L8H.out.trans (KU.mono L8H.out.size)
                clear hU KU m0 m1 m2 m3 n0 n1 n2 n3
                go_wp2
                go_roundw
                case rel => exact ⟨i + 1 + 1, by omega, by go_num, by rw [EHV.out], L9⟩
                case measure => simp [intOf]; omega
          · obtain rfl : j = r1.length := by omega
            rw [List.take_length]
            have HA11 := Lib.hid (HA10.out.bel hb)
            obtain ⟨mt, emt⟩ : ∃ z, hadV r1 [y0, y1, y2] = z := ⟨_, rfl⟩
            rw [emt] at HTO HTF ⊢
            have hlen := HA11.out.len
            have hle : ¬ ((most : Int) < (r1.length : Int)) := by omega
            have hlo1 : ¬ ((1 : Int) < (lo : Int)) := by have := HT9.out; omega
            clear HA10 HR10 bG10 hb emt
            rcases HTE.out with rfl | rfl
            · have hm9 := HTO.out rfl
              subst hm9
              by_cases h0 : hd0 = 0
              · subst h0
                go_wp2
                go_roundw
                case rel => exact ⟨k + 1, v1, r1, by omega, by go_num, HA11⟩
                case measure => simp [intOf]; omega
              · have hl0 := HTH.out h0
                subst hl0
                go_wp2
                go_roundw
                case rel => exact ⟨k + 1, v1, r1, by omega, by go_num, HA11⟩
                case measure => simp [intOf]; omega
            · obtain ⟨h0, h1, h2⟩ := HTF.out rfl
              subst h0
              subst h1
              have h3 : (r1.length : Int) = (most : Int) := by omega
              go_wp2
              go_roundw
              case rel => exact ⟨k + 1, v1, r1, by omega, by go_num, HA11⟩
              case measure => simp [intOf]; omega
end Go.Proofs.Ytpbdgkjlmijipaa.QuS
