/-
  QueueBest.
-/
import Derived.Test.YtpbdgkjlmijipaaQuR0
namespace Go.Proofs.Ytpbdgkjlmijipaa.QuR
open Go.RowKit Go.Shelf Rd Go.Proofs.Ytpbdgkjlmijipaa.Row Mid PgM PgA PgB PgC QuA QuB QuC QuD QuE QuF QuG QuH QuI QuJ QuK QuN QuO QuP QuS0 QuR0
open QuQ (Pgs pgs_ne_of eqL_refl pg_not_own)
open PgN (page_key keyL key_valid)
open Go.Proofs.Ytpbdgkjlmijipaa.Num (ret_int ret_bool)
set_option linter.unusedVariables false
set_option linter.unusedSimpArgs false
set_option maxRecDepth 10000
theorem info_int : (Try.prog.info? 3).map (fun i => (i.zero, i.size, i.bytes)) = some (some (.int .i64 0), 1, 8) := by kernel_rfl
theorem made_int (n : Nat) : madeCells (Value.cells (.int .i64 0)) n = cs .i64 (List.replicate n 0) := by
  apply Array.ext
  · simp [madeCells, cs]
  · intro i h1 h2
    simp only [madeCells, Value.cells, Nat.mod_one, cs, List.map_replicate, Array.getElem_map, List.getElem_toArray, List.getElem_replicate]
    show #[Value.int .i64 0][(Array.range n)[i]'(by simpa [madeCells] using h1) % 1]! = _
    rw [Nat.mod_one]
    rfl
theorem run_make_int (n : Nat) (hn : n ≤ 100000) (w : World) :
    (Instr.makeSlice 52 (.int .i64 (n : Int)) (.int .i64 (n : Int))).run Try.prog w = .ok (.slice (some ⟨w.heap.size, 0, none⟩) n n) (w.alloc (.cells (cs .i64 (List.replicate n 0)) 3)) := by
  obtain ⟨i, hi, hz, hs, hb⟩ := info_parts info_int
  have hr := run_make (P := Try.prog) w 52 3 i (.int .i64 0) Try.underlying52 hi hz .i64 .i64 (n : Int) (n : Int) (by omega) (by omega) (by rw [hb]; omega) (by omega)
  simp only [Int.toNat_natCast, hs, Nat.mul_one] at hr
  rw [hr, made_int]
theorem cs_at {B : List Int} {k : Nat} (h : k < B.length) : (cs .i64 B)[k]? = some (.int .i64 (bst B k)) := by
  simp [cs, bst, List.getD, h]
theorem cs_set (B : List Int) (k : Nat) (v : Int) : (cs .i64 B).setIfInBounds k (.int .i64 v) = cs .i64 (B.set k v) := by
  simp [cs, List.setIfInBounds_toArray, List.map_set]
attribute [local go_sem high] run_minT run_maxT
attribute [local go_sem ↓] store_pg load_w store_w eq_pg3 eq_w4
attribute [local go_sem] eqL_refl one_int pc3 pc4 pc43 run_store_pg run_load_w run_store_w midLoad_eq rowLoad_eq rowStore_eq blk_alloc_at blk_alloc_old blk_drew blk_drewN blk_set_far blk_set_far' blk_grow setRow_alloc_at setRow_alloc_old setRow_drew setRow_drewN
structure Bc (w X : World) (t most : Nat) (v : Value) (r : PgM.Row) (ga o B gb : Nat) (bs : List Int) : Prop where
  low : Below w.heap.size w X
  q : Qu X t 0 most 3 v r
  lt : (w.heap.size ≤ t ∧ t < gb ∧ ga < gb ∧ gb < B ∧ ga ≠ t) ∧ B ≤ X.heap.size
  lv : ∀ k, v.ownBlock = some k → B ≤ k
  pgs : Pgs X ga o 3
  bb : blk X gb = some (.cells (cs .i64 bs) 3 (0, 0))
section
variable {w X Y : World} {t most : Nat} {v v' : Value} {r r' : PgM.Row} {ga o B gb : Nat} {bs : List Int}
theorem Bc.bel (h : Bc w X t most v r ga o B gb bs) (hb : Below X.heap.size X Y) : Bc w Y t most v r ga o B gb bs :=
  ⟨h.low.trans (hb.mono h.low.size), h.q.bel hb, ⟨h.lt.1, Nat.le_trans h.lt.2 hb.size⟩, h.lv, h.pgs.below hb, (blk_below hb _ (blk_lt h.bb)).trans h.bb⟩
theorem Bc.turn (h : Bc w X t most v r ga o B gb bs) (hq : Qu Y t 0 most 3 v' r') (ht : TnB X Y t v) (ha : At X v v') : Bc w Y t most v' r' ga o B gb bs := by
  obtain ⟨⟨l1, l2, l3, l4, l6⟩, l5⟩ := h.lt
  refine ⟨tn_low h.low ht (by omega) (fun k e => by have := h.lv k e; omega), hq, ⟨⟨l1, l2, l3, l4, l6⟩, Nat.le_trans l5 ht.size⟩, fun k e => ?_, h.pgs.kept ht.size ?_, ?_⟩
  · rcases ha with e2 | ⟨j, e2, hj⟩
    · exact h.lv k (e2 ▸ e)
    · rw [e2] at e
      injection e with e
      omega
  · exact ht.block ga h.pgs.lt (by omega) (fun e => by have := h.lv _ e.symm; omega)
  · exact (ht.block gb (blk_lt h.bb) (by omega) (fun e => by have := h.lv _ e.symm; omega)).trans h.bb
theorem Bc.put (h : Bc w X t most v r ga o B gb bs) (k : Nat) (z : Int) : Bc w (X.setCell ⟨gb, k, none⟩ (.int .i64 z)) t most v r ga o B gb (bs.set k z) := by
  have hg := setCell_grown X gb k (.int .i64 z)
  obtain ⟨⟨l1, l2, l3, l4, l6⟩, l5⟩ := h.lt
  have hkeep : ∀ j, j < X.heap.size → j ≠ gb → (X.setCell ⟨gb, k, none⟩ (.int .i64 z)).heap[j]? = X.heap[j]? := fun j h1 h2 => hg.block j h1 (fun e => h2 (by injection e))
  refine ⟨⟨hg.os.trans h.low.os, hg.tape.trans h.low.tape, hg.output.trans h.low.output, Nat.le_trans h.low.size hg.size, fun j hj => (hkeep j (by have := h.low.size; omega) (by omega)).trans (h.low.block j hj)⟩,
    ⟨(hkeep t (blk_lt h.q.t) (by omega)).trans h.q.t, h.q.own.kept hg ?_, h.q.w4⟩, ⟨⟨l1, l2, l3, l4, l6⟩, Nat.le_trans l5 hg.size⟩, h.lv, h.pgs.kept hg.size (hkeep ga h.pgs.lt (by omega)), ?_⟩
  · cases e : v.ownBlock with
    | none => exact .inl rfl
    | some j => exact .inr (fun e2 => by injection e2 with e2; have := h.lv j e; omega)
  · rw [← cs_set]
    exact blk_set _ _ _ _ _ _ h.bb
end
set_option maxHeartbeats 16000000 in
theorem best_gen (a0 : Int) (ai : Option Addr) (len cap : Nat) (zs : List Int) (w : World)
    (hz : ∀ z ∈ zs, Ints.In64 z) (hzl : zs.length = len * 2) (hR : Reads w 2 ai len (Ints.i64s zs)) :
    Calls Try.prog 4 #[.int .i64 a0, .slice ai len cap] w fun e w' => e = .returned (.bool true) ∧ Below w.heap.size w w' := by
  have HR := Lib.hid hR
  have HZ := Lib.hid hz
  have HZL := Lib.hid hzl
  clear hR hz hzl
  go_enter Try.func4, Try.ntmps4
  by_cases hgood : 1 ≤ a0 ∧ a0 ≤ 40 ∧ (len : Int) ≤ 80
  rotate_left
  · obtain ⟨q, eq⟩ : ∃ q, decide (a0 < 1) = q := ⟨_, rfl⟩
    obtain ⟨q', eq'⟩ : ∃ q, decide ((40 : Int) < a0) = q := ⟨_, rfl⟩
    obtain ⟨q2, eq2⟩ : ∃ q, decide ((80 : Int) < (len : Int)) = q := ⟨_, rfl⟩
    have hor : (q || q' || q2) = true := by
      rw [← eq, ← eq', ← eq2]
      simp
      omega
    have eq2n : decide (80 < len) = q2 := by rw [← eq2]; simp; omega
    clear hgood
    cases q <;> cases q' <;> cases q2 <;> first | (exact absurd hor (by decide)) | skip
    all_goals
      clear hor
      go_wp2_with fail
      refine (awake_any _).mono ?_
      rintro e w9 ⟨rfl, hb⟩
      go_wp2
      go_ret
      exact ⟨rfl, hb⟩
  obtain ⟨g1, g2, g3⟩ := hgood
  obtain ⟨most, em⟩ : ∃ n : Nat, a0 = n := ⟨a0.toNat, by omega⟩
  subst em
  have hm1 : 1 ≤ most := by omega
  have hm2 : most ≤ 40 := by omega
  have hl80 : len ≤ 80 := by omega
  have d1 : decide ((most : Int) < 1) = false := decide_eq_false (by omega)
  have d1n : decide (most < 1) = false := decide_eq_false (by omega)
  have d2 : decide ((40 : Int) < (most : Int)) = false := decide_eq_false (by omega)
  have d2n : decide (40 < most) = false := decide_eq_false (by omega)
  have d3 : decide ((80 : Int) < (len : Int)) = false := decide_eq_false (by omega)
  have d3n : decide (80 < len) = false := decide_eq_false (by omega)
  clear g1 g2 g3
  go_wp2_with fail
  refine (new_any most 3 ⟨hm1, by omega⟩ (by decide) _).mono ?_
  rintro e w3 ⟨⟨t, rfl, ht, hq3⟩, hb3⟩
  clear d1 d1n d2 d2n d3 d3n
  go_wp2_with fail
  refine (rpages_any ((3 : Nat) : Int) _).mono ?_
  rintro e w4 ⟨⟨adp, cp, rfl, -, -, hP⟩, hb4⟩
  have hN85 := al_len
  obtain ⟨ga, o, ea, hb0, hc⟩ : ∃ ga o, adp = some ⟨ga, o, none⟩ ∧ ga < w4.heap.size ∧ ∀ i, i < (allV ((3 : Nat) : Int)).length → ∀ j, j < 3 → w4.cell? ⟨ga, o + i * 3 + j, none⟩ = some (.int .i64 (PgM.g (at_ (allV ((3 : Nat) : Int)) i) j)) := by
    rcases hP.2 with h | h
    · rw [show AL = [] from h] at hN85; exact absurd hN85 (by decide)
    · exact h
  subst ea
  have HP4 : Pgs w4 ga o 3 := ⟨hb0, hc⟩
  have hq4 := hq3.bel hb4
  have L4 : Below w.heap.size w w4 := hb3.trans (hb4.mono hb3.size)
  have hne := pgs_ne_of HP4 (by decide) hq4.t (fun z e => (by cases e))
  obtain ⟨N, hN⟩ : ∃ N, (allV ((3 : Nat) : Int)).length = N := ⟨_, rfl⟩
  rw [hN]
  have hN5 : N = 85 := by rw [← hN]; exact hN85
  have mk := run_make_int N (by omega)
  have hNs : N ≤ 85 := by omega
  have hNp : 0 < N := by omega
  have HNN := Lib.hid hN
  clear hN5 hN85 hN
  clear hb4 hP hc hq3 hb3
  go_upto_region 8 with (fail)
  refine Rd.name_world ?_
  intro w5 hw
  obtain ⟨gb, hgb⟩ : ∃ k, w4.heap.size = k := ⟨_, rfl⟩
  have hb5 : Below w4.heap.size w4 w5 := by
    rw [hw]
    exact (Below.refl _ _).alloc (Nat.le_refl _) _
  have b5 : blk w5 gb = some (.cells (cs .i64 (List.replicate AL.length 0)) 3 (0, 0)) := by
    rw [hw, show AL.length = N from HNN.out]
    exact blk_alloc_at _ _ _ hgb.symm
  have HA : Hid (Bc w w5 t most (.slice none 0 0) [] ga o w5.heap.size gb (List.replicate AL.length 0)) := Lib.hid
    ⟨L4.trans (hb5.mono L4.size), hq4.bel hb5, ⟨⟨ht, by rw [← hgb]; exact hq4.lt, by rw [← hgb]; exact hb0, blk_lt b5, hne⟩, Nat.le_refl _⟩, fun k e => (by cases e), HP4.below hb5, b5⟩
  have HT : Hid (Top (List.replicate AL.length 0) most []) := Lib.hid (top_start most)
  obtain ⟨B, hB⟩ : ∃ B, w5.heap.size = B := ⟨_, rfl⟩
  rw [hB] at HA
  rw [hgb]
  have HN := HNN
  clear hw hgb hb5 b5 hB HNN mk hne hq4 HP4 L4 hb0 ht
  go_wp2_with fail
  go_loopw [9] (fun i X => ∃ (k : Nat) (v : Value) (r : PgM.Row) (bs : List Int), k ≤ len ∧ i = .int .i64 k ∧ Hid (Bc w X t most v r ga o B gb bs) ∧ Hid (Top bs most r)) (fun i _ => len - (intOf i).toNat)
  case atStart => exact ⟨0, _, _, _, by omega, rfl, HA, HT⟩
  case round =>
    clear HA HT
    obtain ⟨k, v, r, bs, hk, rfl, HA, HT⟩ := hrel
    rename World => X
    by_cases hlt : k < len
    · have hlt' : (k : Int) < len := by omega
      obtain ⟨ab, ao, rfl, hab, hac⟩ := Ints.cell_of HR.out (k := k * 2) (by rw [HZL.out]; omega) (by omega)
      have hcell0 := (HA.out.low.cell (p := ⟨ab, ao + k * 2, none⟩) hab).trans (hac (k * 2) (by rw [HZL.out]; omega))
      have hcell1 := (HA.out.low.cell (p := ⟨ab, ao + k * 2 + 1, none⟩) hab).trans (hac (k * 2 + 1) (by rw [HZL.out]; omega))
      obtain ⟨z0, ez0⟩ : ∃ z, zs.getD (k * 2) 0 = z := ⟨_, rfl⟩
      obtain ⟨z1, ez1⟩ : ∃ z, zs.getD (k * 2 + 1) 0 = z := ⟨_, rfl⟩
      have hzz := Ints.getD_in HZ.out (k * 2)
      have hz1 := Ints.getD_in HZ.out (k * 2 + 1)
      rw [ez0] at hcell0 hzz
      rw [ez1] at hcell1 hz1
      clear ez0 ez1 hac
      go_wp2_with fail
      refine (Alk.round_any z0 N _ hzz.1 hzz.2 (by omega) (by omega)).mono ?_
      rintro e w5 ⟨rfl, rfl⟩
      obtain ⟨kk, ek⟩ : ∃ k : Nat, z0 % N = k := ⟨(z0 % N).toNat, by have := Int.emod_nonneg z0 (b := (N : Int)) (by omega); omega⟩
      have hkk : kk < N := by have := Int.emod_lt_of_pos z0 (b := (N : Int)) (by omega); omega
      rw [ek]
      have hkA : kk < AL.length := by rw [show AL.length = N from HN.out]; exact hkk
      obtain ⟨y0, y1, y2, eX, eK⟩ := page_key (n := 3) (by decide) hkA
      obtain ⟨c0, c1, c2⟩ := HA.out.pgs.three hkA eX
      have hv := key_valid eK
      have hkk' : (kk : Int) < N := by omega
      clear ek eK hcell0
      go_wp2_with fail
      refine (Alk.round_any z1 30 _ hz1.1 hz1.2 (by decide) (by decide)).mono ?_
      rintro e w9 ⟨rfl, rfl⟩
      obtain ⟨p, ep⟩ : ∃ p : Nat, 1 + z1 % 30 = p := ⟨(1 + z1 % 30).toNat, by have := Int.emod_nonneg z1 (b := 30) (by omega); omega⟩
      have hp1 : (1 : Int) ≤ p := by have := Int.emod_nonneg z1 (b := 30) (by omega); omega
      have hp2 : (p : Int) ≤ 30 := by have := Int.emod_lt_of_pos z1 (b := 30) (by omega); omega
      have hwp : wrap64 (1 + z1 % 30) = (p : Int) := by unfold wrap64; omega
      have hwp2 : IntKind.i64.wrap (1 + z1 % 30) = (p : Int) := by rw [IntKind.wrap_i64]; omega
      have hrs : r.length ≤ 100000 := by have := HT.out.len; omega
      clear hcell1
      go_wp2_with fail
      refine (add_in t most 3 v r y0 y1 y2 p X HA.out.q hv hp1 hm1 hrs).mono ?_
      rintro e W ⟨ao9, co9, v1, rfl, -, hq1, ht1, ha1, -⟩
      have hT1 := top_add HT.out hkA hp1
      rw [eX] at hT1
      have HA1 := Lib.hid (HA.out.turn hq1 ht1 ha1)
      obtain ⟨bk, ebk⟩ : ∃ z, bst bs kk = z := ⟨_, rfl⟩
      have hkb : kk < bs.length := by rw [HT.out.blen]; exact hkA
      have hcb : W.cell? ⟨gb, kk, none⟩ = some (.int .i64 bk) := by rw [blk_cell HA1.out.bb, cs_at hkb, ebk]
      have hfb := blk_frozen HA1.out.bb kk
      rw [ebk] at hT1
      have HA2 := Lib.hid (HA1.out.put kk (max bk p))
      have HT2 := Lib.hid hT1
      obtain ⟨r1, er1⟩ : ∃ z, newQ most ((3 : Nat) : Int) r [y0, y1, y2] p = z := ⟨_, rfl⟩
      rw [er1] at HA2 HT2
      clear hq1 ht1 ha1 hT1 hwp hwp2 c0 c1 c2 hv hzz hz1 HA1 HA HT eX er1 ebk
      go_wp2_with fail
      refine (len_any t 0 most 3 v1 r1 _ HA2.out.q).mono ?_
      rintro e W9 ⟨rfl, hW9⟩
      rw [hW9] at HA2
      have hlm : ¬ ((most : Int) < (r1.length : Int)) := by have := HT2.out.len; omega
      clear hW9 hcb hfb
      go_wp2
      go_roundw
      case rel => exact ⟨k + 1, v1, r1, _, by omega, by go_num, HA2, HT2⟩
      case measure => simp [intOf]; omega
    · obtain rfl : k = len := by omega
      clear hlt
      go_wp2_with fail
      go_loopw [12] (fun i X => ∃ (k : Nat) (v : Value) (r : PgM.Row) (bs : List Int), k ≤ most ∧ i = .int .i64 k ∧ Hid (Bc w X t most v r ga o B gb bs) ∧ Hid (Top bs (most - k) r)) (fun i _ => most - (intOf i).toNat)
      case atStart => exact ⟨0, v, r, bs, by omega, rfl, HA, HT⟩
      case round =>
        clear HA HT
        obtain ⟨k2, v2, r2, bs2, hk2, rfl, HA, HT⟩ := hrel
        rename World => X2
        by_cases hlt2 : k2 < most
        rotate_left
        · obtain rfl : k2 = most := by omega
          have hr0 : r2 = [] := List.eq_nil_of_length_eq_zero (by have := HT.out.len; omega)
          subst hr0
          go_wp2_with fail
          refine (len_any t 0 k2 3 v2 [] X2 HA.out.q).mono ?_
          rintro e _ ⟨rfl, rfl⟩
          have HLW := Lib.hid HA.out.low
          clear HA HT
          go_wp2_with fail
          refine (awake_any _).mono ?_
          rintro e w9 ⟨rfl, hb⟩
          have hlow := HLW.out.trans (hb.mono HLW.out.size)
          clear hb
          go_wp2
          go_ret
          exact ⟨rfl, hlow⟩
        have hlt2' : (k2 : Int) < (most : Int) := by omega
        have hbl : bs2.length = N := by rw [HT.out.blen]; exact HN.out
        have HBL := Lib.hid hbl
        clear hbl
        go_wp2_with fail
        go_loopw [13, 14] (fun a q Y => ∃ j : Nat, j ≤ N ∧ q = .int .i64 j ∧ ∃ av : Int, a = .int .i64 av ∧ Hid (Best bs2 j av) ∧ Below X2.heap.size X2 Y) (fun _ q _ => N - (intOf q).toNat)
        case atStart => exact ⟨0, by omega, rfl, -1, rfl, Lib.hid (best_start bs2), Below.refl _ _⟩
        case round =>
          obtain ⟨j, hj, rfl, av, rfl, HB, hb⟩ := hrel
          rename World => Y
          by_cases hjl : j < N
          · have hji : (j : Int) < (N : Int) := by omega
            have HBS := Lib.hid (best_step HB.out)
            obtain ⟨bz, ebz⟩ : ∃ z, bst bs2 j = z := ⟨_, rfl⟩
            have bbY := (blk_below hb _ (blk_lt HA.out.bb)).trans HA.out.bb
            have gj := Go.cell_regrown (show Y.cell? ⟨gb, j, none⟩ = some (.int .i64 bz) by rw [blk_cell bbY, cs_at (by rw [HBL.out]; exact hjl), ebz])
            rw [ebz] at HBS
            have HB9 := Lib.hid hb
            clear hb ebz
            go_upto_region 24 with (fail)
            by_cases h0 : 0 < bz
            rotate_left
            · skip
              have e1 : decide (0 < bz) = false := decide_eq_false h0
              (refine wp_region_quiet_below (by kernel_rfl) (by kernel_rfl) ?_; (repeat (go_big_quiet_step ((fail)))); refine wpQuiet_nil ?_)
              intro U hU
              have KU := Rd.below_of_regrown hU
              have L9 := HB9.out.trans (KU.mono HB9.out.size)
              clear hU KU gj
              go_wp2
              go_roundw
              case rel => exact ⟨j + 1, by omega, by go_num, av, rfl, Lib.hid (HBS.out.2 (fun h => h0 h.1)), L9⟩
              case measure => simp [intOf]; omega
            rcases HB.out with ⟨eav, -⟩ | ⟨i9, eav, hi9, -⟩
            · subst eav
              have e1 : decide (0 < bz) = true := decide_eq_true h0
              have e2 : decide ((-1 : Int) < 0) = true := by decide
              (refine wp_region_quiet_below (by kernel_rfl) (by kernel_rfl) ?_; (repeat (go_big_quiet_step ((fail)))); refine wpQuiet_nil ?_)
              intro U hU
              have KU := Rd.below_of_regrown hU
              have L9 := HB9.out.trans (KU.mono HB9.out.size)
              clear hU KU gj
              go_wp2
              go_roundw
              case rel => exact ⟨j + 1, by omega, by go_num, (j : Int), rfl, Lib.hid (HBS.out.1 ⟨h0, .inl (by decide)⟩), L9⟩
              case measure => simp [intOf]; omega
            · subst eav
              obtain ⟨bi, ebi⟩ : ∃ z, bst bs2 i9 = z := ⟨_, rfl⟩
              have hii : (i9 : Int) < (N : Int) := by omega
              have gi := Go.cell_regrown (show Y.cell? ⟨gb, i9, none⟩ = some (.int .i64 bi) by rw [blk_cell bbY, cs_at (by rw [HBL.out]; omega), ebi])
              have HBI := Lib.hid ebi
              clear ebi bbY
              by_cases h1 : bi < bz
              · skip
                have e1 : decide (0 < bz) = true := decide_eq_true h0
                have e2 : decide ((i9 : Int) < 0) = false := decide_eq_false (by omega)
                have e2n : ¬ ((i9 : Int) < 0) := by omega
                have e3 : decide (bi < bz) = true := decide_eq_true h1
                (refine wp_region_quiet_below (by kernel_rfl) (by kernel_rfl) ?_; (repeat (go_big_quiet_step ((fail)))); refine wpQuiet_nil ?_)
                intro U hU
                have KU := Rd.below_of_regrown hU
                have L9 := HB9.out.trans (KU.mono HB9.out.size)
                clear hU KU gj gi
                go_wp2
                go_roundw
                case rel => exact ⟨j + 1, by omega, by go_num, (j : Int), rfl, Lib.hid (HBS.out.1 ⟨h0, .inr ⟨i9, rfl, by rw [HBI.out]; exact h1⟩⟩), L9⟩
                case measure => simp [intOf]; omega
              · skip
                have e1 : decide (0 < bz) = true := decide_eq_true h0
                have e2 : decide ((i9 : Int) < 0) = false := decide_eq_false (by omega)
                have e2n : ¬ ((i9 : Int) < 0) := by omega
                have e3 : decide (bi < bz) = false := decide_eq_false h1
                (refine wp_region_quiet_below (by kernel_rfl) (by kernel_rfl) ?_; (repeat (go_big_quiet_step ((fail)))); refine wpQuiet_nil ?_)
                intro U hU
                have KU := Rd.below_of_regrown hU
                have L9 := HB9.out.trans (KU.mono HB9.out.size)
                clear hU KU gj gi
                go_wp2
                go_roundw
                case rel => exact ⟨j + 1, by omega, by go_num, (i9 : Int), rfl, Lib.hid (HBS.out.2 (fun h => by
                  rcases h.2 with h2 | ⟨i', e, h2⟩
                  · omega
                  · obtain rfl : i9 = i' := by omega
                    rw [HBI.out] at h2
                    exact h1 h2)), L9⟩
                case measure => simp [intOf]; omega
          · obtain rfl : j = N := by omega
            have HA3 := Lib.hid (HA.out.bel hb)
            have HB3 : Hid (Best bs2 AL.length av) := Lib.hid (by rw [show AL.length = j from HN.out]; exact HB.out)
            clear HA HB hb
            cases r2 with
            | nil =>
              have hm9 := top_none HT.out (by omega) HB3.out
              have HT3 : Hid (Top bs2 (most - (k2 + 1)) []) := Lib.hid (by
                have := top_less HT.out (by omega)
                rwa [show most - k2 - 1 = most - (k2 + 1) by omega] at this)
              subst hm9
              go_wp2_with fail
              refine (pop_none t most 3 v2 Y HA3.out.q).mono ?_
              rintro e X1 ⟨rfl, hb⟩
              have hb1 : Below X1.heap.size X1 (X1.alloc (.cells (cs .i64 [0, 0, 0, 0]) 36)) := (Below.refl _ _).alloc (Nat.le_refl _) _
              have HA4 := Lib.hid ((HA3.out.bel hb).bel hb1)
              clear hb hb1 HA3 HT HB3
              go_upto_region 27 with (fail)
              refine Rd.name_world ?_
              intro W hw
              rw [← hw] at HA4
              clear hw
              (refine wp_region_quiet_below (by kernel_rfl) (by kernel_rfl) ?_; (repeat (go_big_quiet_step ((fail)))); refine wpQuiet_nil ?_)
              intro U hU
              have KU := Rd.below_of_regrown hU
              have HA5 := Lib.hid (HA4.out.bel KU)
              clear hU KU HA4
              go_wp2
              go_roundw
              case rel => exact ⟨k2 + 1, v2, [], bs2, by omega, by go_num, HA5, HT3⟩
              case measure => simp [intOf]; omega
            | cons x s =>
              obtain ⟨i9, eav, hi9, ex, hT4⟩ := top_first HT.out HB3.out
              subst eav
              obtain ⟨x0, x1, x2, ep, ew, -⟩ := wn_ex hi9 (bst bs2 i9)
              obtain ⟨bi, ebi⟩ : ∃ z, bst bs2 i9 = z := ⟨_, rfl⟩
              rw [ebi] at ew
              rw [ebi] at ex
              rw [ew] at ex
              subst ex
              have HT3 : Hid (Top (bs2.set i9 0) (most - (k2 + 1)) s) := Lib.hid (by rwa [show most - k2 - 1 = most - (k2 + 1) by omega] at hT4)
              have hij : i9 < j := by rw [← show AL.length = j from HN.out]; exact hi9
              have hii : (i9 : Int) < (j : Int) := by omega
              have HI9 := Lib.hid hi9
              have HEP := Lib.hid ep
              have HEB := Lib.hid ebi
              clear hT4 ew HT HB3 hi9 ep ebi
              go_wp2_with fail
              refine (pop_some t most 3 v2 [x0, x1, x2, bi] s Y HA3.out.q).mono ?_
              rintro e X1 ⟨v1, rfl, hq1, ht1, ha1⟩
              have hb1 : Below X1.heap.size X1 (X1.alloc (.cells (cs .i64 [x0, x1, x2, bi]) 36)) := (Below.refl _ _).alloc (Nat.le_refl _) _
              have HA4 := Lib.hid ((HA3.out.turn hq1 ht1 ha1).bel hb1)
              clear hq1 ht1 ha1 hb1 HA3
              go_upto_region 27 with (fail)
              refine Rd.name_world ?_
              intro W hw
              rw [← hw] at HA4
              have bw : blk W X1.heap.size = some (.cells #[.int .i64 x0, .int .i64 x1, .int .i64 x2, .int .i64 bi] 36 (0, 0)) := by rw [hw]; exact blk_alloc_at _ _ _ rfl
              have g0 := Go.cell_regrown (show W.cell? ⟨X1.heap.size, 0, none⟩ = some (.int .i64 x0) by rw [blk_cell bw]; rfl)
              have g1 := Go.cell_regrown (show W.cell? ⟨X1.heap.size, 1, none⟩ = some (.int .i64 x1) by rw [blk_cell bw]; rfl)
              have g2 := Go.cell_regrown (show W.cell? ⟨X1.heap.size, 2, none⟩ = some (.int .i64 x2) by rw [blk_cell bw]; rfl)
              have g3 := Go.cell_regrown (show W.cell? ⟨X1.heap.size, 3, none⟩ = some (.int .i64 bi) by rw [blk_cell bw]; rfl)
              obtain ⟨c0, c1, c2⟩ := HA4.out.pgs.three HI9.out HEP.out
              have n0 := Go.cell_regrown c0
              have n1 := Go.cell_regrown c1
              have n2 := Go.cell_regrown c2
              have gi := Go.cell_regrown (show W.cell? ⟨gb, i9, none⟩ = some (.int .i64 bi) by rw [blk_cell HA4.out.bb, cs_at (by rw [HBL.out]; exact hij), HEB.out])
              have hge : decide ((0 : Int) ≤ (i9 : Int)) = true := decide_eq_true (by omega)
              clear hw bw c0 c1 c2
              (refine wp_region_quiet_below (by kernel_rfl) (by kernel_rfl) ?_; (repeat (go_big_quiet_step ((fail)))); refine wpQuiet_nil ?_)
              intro U hU
              have KU := Rd.below_of_regrown hU
              have HA5 := Lib.hid (HA4.out.bel KU)
              have cU : U.cell? ⟨gb, i9, none⟩ = some (.int .i64 bi) := by rw [blk_cell HA5.out.bb, cs_at (by rw [HBL.out]; exact hij), HEB.out]
              have fU := blk_frozen HA5.out.bb i9
              have HA6 := Lib.hid (HA5.out.put i9 0)
              clear hU KU HA4 HA5 g0 g1 g2 g3 n0 n1 n2 gi
              go_wp2
              go_roundw
              case rel => exact ⟨k2 + 1, v1, s, _, by omega, by go_num, HA6, HT3⟩
              case measure => simp [intOf]; omega
end Go.Proofs.Ytpbdgkjlmijipaa.QuR
