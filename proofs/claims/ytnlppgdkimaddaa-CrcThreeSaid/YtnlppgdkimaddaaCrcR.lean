/-
  One, two or three bits that are turned change the sum (CrcThree).
-/
import Derived.Test.YtnlppgdkimaddaaCrcQ
import Derived.BigQuiet
namespace Go.Proofs.Ytnlppgdkimaddaa.CrcR
open Go.RowKit Rd Go.Proofs.Ytnlppgdkimaddaa.Row CrcA CrcB CrcC CrcD CrcE CrcG CrcP CrcQ Alk
open Go.Proofs.Ytnlppgdkimaddaa.Pred (Is is_stab Stab)
set_option linter.unusedVariables false
set_option linter.unusedSimpArgs false
set_option maxRecDepth 100000
attribute [local go_sem ↓] load_tbl store_tbl alloc_tbl
attribute [local go_sem] run_alloc_tbl run_load_tbl run_store_tbl rowLoad_eq rowStore_eq blk_alloc_at blk_alloc_old blk_drew blk_drewN blk_set_far blk_set_far' blk_grow setRow_alloc_at setRow_alloc_old setRow_drew setRow_drewN all_map one_int


theorem und_bool : Try.prog.underlying 4 = some .bool := Try.underlying4
def Loose (s : Value) (p : Nat) (left : Lit → Bool) : Prop := ∃ b, s = .bool b ∧ (b = false ∨ left (.int .i64 (p : Int)) = true)
def P3 (a b c : Int) (k : Nat) : Int := if k = 0 then a else if k = 1 then b else c
set_option maxHeartbeats 4000000 in
theorem CrcThree_walk (a0 : Option Addr) (len0 cap0 : Nat) (x0 : List (List Value)) (a1 : Int) (a2 : Int) (a3 : Int) (w : World) (w0 : Flat.IsRows [some .u8] w a0 len0 cap0 x0) (w1 : (Lit.int .i64 a1).wf = true) (w2 : (Lit.int .i64 a2).wf = true) (w3 : (Lit.int .i64 a3).wf = true) :
    Calls Try.prog 4 #[.slice a0 len0 cap0, .int .i64 a1, .int .i64 a2, .int .i64 a3] w fun e w' => e = .returned (.bool true) ∧ Below w.heap.size w w' := by
  obtain ⟨zs, hzl, hz, hR, hlc, hcm, hcase⟩ := Bytes.rows_bytes w0
  clear w0 hcase
  unfold maxLen at hcm
  by_cases h1 : len0 < 1
  · have h1' : (len0 : Int) < 1 := by omega
    clear hzl
    go_enter Try.func4, Try.ntmps4
    go_wp2_with (go_at_call 7; refine (awake_any _).mono ?_; rintro e w3 ⟨rfl, hb⟩)
    go_ret
    exact ⟨rfl, by repeat' (first | (with_reducible exact Below.refl _ _) | (with_reducible refine Rd.below_step ?_ (by assumption)) | (with_reducible refine Rd.below_alloc ?_ _) | (with_reducible refine Rd.below_drewN ?_ _) | (with_reducible refine Below.drew ?_) | (with_reducible refine Below.setCell ?_ ?_ _) | (with_reducible refine Rd.below_setRow ?_ ?_ _) | go_size | (simp only [World.size_alloc]; omega) | omega)⟩
  have h1' : ¬ (len0 : Int) < 1 := by omega
  by_cases hbig : 2000 < len0
  · have hbig' : (2000 : Int) < (len0 : Int) := by omega
    have hd : decide ((len0 : Int) < 1) = false := decide_eq_false h1'
    clear hzl h1
    go_enter Try.func4, Try.ntmps4
    go_wp2_with (go_at_call 7; refine (awake_any _).mono ?_; rintro e w3 ⟨rfl, hb⟩)
    go_ret
    exact ⟨rfl, by repeat' (first | (with_reducible exact Below.refl _ _) | (with_reducible refine Rd.below_step ?_ (by assumption)) | (with_reducible refine Rd.below_alloc ?_ _) | (with_reducible refine Rd.below_drewN ?_ _) | (with_reducible refine Below.drew ?_) | (with_reducible refine Below.setCell ?_ ?_ _) | (with_reducible refine Rd.below_setRow ?_ ?_ _) | go_size | (simp only [World.size_alloc]; omega) | omega)⟩
  have hsm : ¬ (2000 : Int) < (len0 : Int) := by omega
  have hd : decide ((len0 : Int) < 1) = false := decide_eq_false h1'
  have hd2 : decide ((2000 : Int) < (len0 : Int)) = false := decide_eq_false hsm
  have b1 := bounds_i64 w1
  have b2 := bounds_i64 w2
  have b3 := bounds_i64 w3
  clear w1 w2 w3
  obtain ⟨N, hN⟩ : ∃ N : Nat, (8 : Int) * (len0 : Int) = (N : Int) := ⟨8 * len0, by omega⟩
  have hN8 : N = 8 * len0 := by omega
  have pos : ∀ a : Int, ∃ i : Nat, a % (N : Int) = (i : Int) ∧ i < N := fun a => ⟨(a % (N : Int)).toNat, by
    have h1 := Int.emod_nonneg a (show (N : Int) ≠ 0 by omega)
    have h2 := Int.emod_lt_of_pos a (show (0 : Int) < (N : Int) by omega)
    omega⟩
  obtain ⟨i0, e0, l0⟩ := pos a1
  obtain ⟨i1, e1, l1⟩ := pos a2
  obtain ⟨i2, e2, l2⟩ := pos a3
  have HP := Lib.hid (show ∀ k, k < 3 → -9223372036854775808 ≤ P3 a1 a2 a3 k ∧ P3 a1 a2 a3 k ≤ 9223372036854775807 ∧ ∃ i : Nat, [i0, i1, i2][k]? = some i ∧ P3 a1 a2 a3 k % (N : Int) = (i : Int) ∧ i < N from fun k hk => by
    rcases (show k = 0 ∨ k = 1 ∨ k = 2 by omega) with rfl | rfl | rfl
    · exact ⟨b1.1, b1.2, i0, rfl, e0, l0⟩
    · exact ⟨b2.1, b2.2, i1, rfl, e1, l1⟩
    · exact ⟨b3.1, b3.2, i2, rfl, e2, l2⟩)
  have hidx : ∀ (k : Nat) (W : World), k < 3 → (Instr.index 35 (.agg #[.int .i64 a1, .int .i64 a2, .int .i64 a3]) (.int .i64 (k : Int))).run Try.prog W = .ok (.int .i64 (P3 a1 a2 a3 k)) W := fun k W hk => by
    rcases (show k = 0 ∨ k = 1 ∨ k = 2 by omega) with rfl | rfl | rfl <;> rfl
  have HIX := Lib.hid hidx
  obtain ⟨p, hp⟩ := three_odd i0 i1 i2
  have HODD := Lib.hid (And.intro hp (flips_ne (c := 4294967295) (i := i0) (j := i1) (k := i2) (show zs.length ≤ 2000 by omega) (by omega) (by omega) (by omega)))
  have HL := Lib.hid (And.intro l0 (And.intro l1 l2))
  clear pos e0 e1 e2 l0 l1 l2 hidx b1 b2 b3 hp
  have HZ := Lib.hid (And.intro hzl (And.intro hz hR))
  have HN := Lib.hid (And.intro hN hN8)
  have hN16 : 1 ≤ N ∧ N ≤ 16000 := by omega
  have hmm := @run_makeMap Try.prog
  have hlen : 1 ≤ len0 ∧ len0 ≤ 2000 := by omega
  have HLC := Lib.hid (And.intro hlc hcm)
  clear hzl hz hR hN8 hbig h1 hlc hcm
  go_enter Try.func4, Try.ntmps4
  go_wp2_with fail
  refine (make_any _).mono ?_
  rintro e w1 ⟨rfl, hb1⟩
  have s1 := hb1.size
  have hl := tblL_len
  go_upto_region 5 with (fail)
  refine Rd.name_world ?_
  intro W hW
  have T0 : blk W w1.heap.size = some (.cells (cs .u32 tblL) 26 (0, 0)) := by rw [hW]; exact blk_alloc_at _ _ _ rfl
  have LW : Below w.heap.size w W := by rw [hW]; repeat' (first | (with_reducible exact Below.refl _ _) | (with_reducible refine Rd.below_step ?_ (by assumption)) | (with_reducible refine Rd.below_alloc ?_ _) | (with_reducible refine Rd.below_drewN ?_ _) | (with_reducible refine Below.drew ?_) | (with_reducible refine Below.setCell ?_ ?_ _) | (with_reducible refine Rd.below_setRow ?_ ?_ _) | go_size | (simp only [World.size_alloc]; omega) | omega)
  have HT := Lib.hid (And.intro T0 LW)
  have lT := blk_lt T0
  have hRW := HZ.out.2.2.below LW (Nat.le_refl _)
  have HRW := Lib.hid hRW
  clear hW hb1 T0 hN
  obtain ⟨i0', hi, hz0, hz1, hz2⟩ := info_parts CrcQ.info_u8
  have hmade := World.ownsRow_made W (e := 5) (size := 1) (base := W.heap.size) #[] 0 (Nat.le_refl _) (by decide) rfl
  clear hRW
  go_upto_region 6 with (at_builtin; refine App.wpList_append_reads _ rfl (.tmp 32) (.tmp 33) 22 rfl W.heap.size 5 i0' (.int .u8 0) 1 1 Try.underlying22 hi hz0 hz1 hz2 rfl (by decide) _ _ _ rfl hmade a0 len0 cap0 (u8s zs) rfl (HRW.out.below ((Below.refl _ _).alloc (Nat.le_refl _) _) (Nat.le_refl _)) (CrcQ.one_u8 zs) (by unfold maxLen; omega) (by omega) (by simp <;> omega) ?_; intro v3 w3 ho3 hg3; obtain ⟨a3', c3, rfl, -, -⟩ := owns_val ho3; have HO3 : Hid (w3.ownsRow W.heap.size 5 1 (.slice a3' len0 c3) len0 (u8s zs)) := Lib.hid (by have h9 := ho3; simp only [Nat.zero_add, List.nil_append] at h9; exact h9); have HB3 := Lib.hid (((Below.refl _ W).alloc (Nat.le_refl _) _).grown hg3 (by simp <;> omega) (fun j hj => (hmade.lt j hj).1)); clear ho3 hg3)
  obtain ⟨g, ea, hgW, hblk⟩ : ∃ g, a3' = some ⟨g, 0, none⟩ ∧ W.heap.size ≤ g ∧ ∃ cur : Array Value, blk w3 g = some (.cells cur 5 (0, 0)) := by
    rcases HO3.out.2 with ⟨h, -⟩ | ⟨g, cap, cur, e, hb, hg, -⟩
    · injection h with h1 h2 h3
      omega
    · injection e with e1 e2 e3
      exact ⟨g, e1, hb, cur, hg⟩
  subst ea
  obtain ⟨cur, hcur⟩ := hblk
  have lg := blk_lt hcur
  clear hmade hcur hi hz0 hz1 hz2
  go_wp2_with fail
  have HB := Lib.hid (HB3.out.size)
  have B3W := HB3.out
  have hT3 := Lib.hid ((blk_below B3W _ lT).trans HT.out.1)
  have L3 := Lib.hid (HT.out.2.trans (B3W.mono HT.out.2.size))
  have ltb : w1.heap.size < w3.heap.size := Nat.lt_of_lt_of_le lT B3W.size
  have szw : w.heap.size ≤ w3.heap.size := L3.out.size
  have szg : w.heap.size ≤ g := Nat.le_trans HT.out.2.size hgW
  clear B3W
  go_loopw [40] (fun i wr => ∃ (k : Nat) (D : DM), k ≤ 3 ∧ i = .int .i64 (k : Int) ∧ Hid (wr.ownsMap Try.prog 3 (plainElem Try.prog 4) w3.heap.size k D) ∧ Hid (Par D ([i0, i1, i2].take k)) ∧ Hid (wr.ownsRow W.heap.size 5 1 (.slice (some ⟨g, 0, none⟩) len0 c3) len0 (u8s (flips zs ([i0, i1, i2].take k)))) ∧ Hid (blk wr w1.heap.size = some (.cells (cs .u32 tblL) 26 (0, 0))) ∧ Hid (Below w.heap.size w wr)) (fun i _ => 3 - (intOf i).toNat)
  case atStart =>
    exact ⟨0, .map [], by omega, rfl, Lib.hid (World.ownsMap_made _ _ _ _), Lib.hid par_nil, Lib.hid (own_bel HO3.out ((Below.refl _ _).alloc (Nat.le_refl _) _)), Lib.hid ((blk_alloc_old _ _ _ ltb).trans hT3.out), Lib.hid (L3.out.alloc szw _)⟩
  case round =>
    obtain ⟨k, D, hk, rfl, HM, HPar, HOR, HTr, HBr⟩ := hrel
    by_cases hlt : k < 3
    · obtain ⟨pb1, pb2, i, hi, hpi, hiN⟩ := HP.out k hlt
      have HPB := Lib.hid (And.intro pb1 pb2)
      have HI := Lib.hid hi
      have HPI := Lib.hid hpi
      have hix := fun W => HIX.out k W hlt
      clear pb1 pb2 hi hpi
      generalize P3 a1 a2 a3 k = pk at *
      go_wp2_with fail
      refine (round_any pk (N : Int) _ HPB.out.1 HPB.out.2 (by omega) (by omega)).mono ?_
      rintro e w2 ⟨rfl, rfl⟩
      rw [HPI.out]
      have hwf : (Lit.int .i64 (i : Int)).wf = true := WalkArith.wf_i64 (by omega)
      go_upto_region 12 with (first
        | (at_lookup; refine CrcQ.wpList_lookup_own_bool _ rfl _ _ 34 rfl 3 4 law_int Try.underlying34 und_bool (zero_bool _) w3.heap.size k D rfl HM.out _ _ rfl (Maps.keyOf_int_mk underlying_int hwf) ?_; intro c hat)
        | (at_mapUpdate; refine wpList_mapUpdate_own _ rfl _ _ _ 34 rfl 3 4 law_int Try.underlying34 (plainElem Try.prog 4) w3.heap.size k D rfl HM.out (by unfold maxLen; omega) _ _ _ rfl rfl (Maps.keyOf_int_mk underlying_int hwf) (.lit (.bool (!c))) [] (plainElem_bool und_bool _) ?_; intro Y hmY hgY; go_frame)
        | fail)
      obtain ⟨q, r, hqr, hr8⟩ : ∃ q r : Nat, i = 8 * q + r ∧ r < 8 := ⟨i / 8, i % 8, by omega, by omega⟩
      have hqL : q < len0 := by have := HN.out.2; omega
      have hlen2 : (flips zs ([i0, i1, i2].take k)).length = len0 := (CrcQ.flips_len zs _ zs).trans HZ.out.1
      have hOR2 := own_map HOR.out HM.out hgY
      obtain ⟨hc0, hf0, hgB, hgl⟩ := own_cell hOR2 hlen2 hqL
      have HB8 := Lib.hid (flips_b8 HZ.out.2.1 ([i0, i1, i2].take k))
      have hx := getD_b8 HB8.out q
      have HFL := Lib.hid (show flips zs ([i0, i1, i2].take (k + 1)) = CrcP.flip (flips zs ([i0, i1, i2].take k)) i by
        rw [List.take_add_one, HI.out]; exact flips_snoc zs _ i)
      have HPar2 := Lib.hid (show Par (D.put (.int .i64 (i : Int)) (.lit (.bool (!c)))) ([i0, i1, i2].take (k + 1)) by
        rw [List.take_add_one, HI.out]; exact HPar.out.put HM.out.isMap hat)
      have HMY := Lib.hid hmY
      have HOR2 := Lib.hid hOR2
      have HTY := Lib.hid (blk_map HTr.out HM.out hgY)
      have HBY := Lib.hid (HBr.out.grown hgY HBr.out.size (fun j hj => by cases hj; exact szw))
      have HLEN := Lib.hid hlen2
      obtain ⟨x, hx2⟩ : ∃ x : Nat, (flips zs ([i0, i1, i2].take k)).getD q 0 = x := ⟨_, (Int.toNat_of_nonneg hx.1).symm⟩
      rw [hx2] at hc0 hx
      have hx8 : x < 256 := by omega
      have HX := Lib.hid hx2
      clear hx2 hx hOR2 hmY hgY hat hlen2 hwf
      have eq8 : (i : Int) / 8 = (q : Int) := by omega
      have hq' : (q : Int) < (len0 : Int) := by omega
      rcases (show r = 0 ∨ r = 1 ∨ r = 2 ∨ r = 3 ∨ r = 4 ∨ r = 5 ∨ r = 6 ∨ r = 7 by omega) with rfl | rfl | rfl | rfl | rfl | rfl | rfl | rfl
      · have er8 : (i : Int) % 8 = 0 := by omega
        have HQR := Lib.hid hqr
        clear hqr
        have hxr : bits .xor .u8 (x : Int) 1 = ((x ^^^ 1 : Nat) : Int) := u8_xor_nat x 1 hx8 (by omega)
        obtain ⟨y, hy⟩ : ∃ y, x ^^^ 1 = y := ⟨_, rfl⟩
        rw [hy] at hxr
        have HY := Lib.hid hy
        clear hy
        (refine Reg.quiet_tail 10 (by kernel_rfl) (by kernel_rfl) ?_; simp only [List.take_succ_cons, List.take_zero, List.drop_succ_cons, List.drop_zero]; (repeat go_big_quiet_step (fail)); refine wpQuiet_nil ?_)
        go_wp2
        have hfl : CrcP.flip (flips zs ([i0, i1, i2].take k)) i = (flips zs ([i0, i1, i2].take k)).set q (y : Int) := by
          unfold CrcP.flip
          have hqr := HQR.out
          rw [show i / 8 = q by omega, show i % 8 = 0 by omega, HX.out, Int.toNat_natCast, ← HY.out]
        go_roundw
        case rel =>
          refine ⟨k + 1, _, by omega, by go_num, Lib.hid (HMY.out.setCell (a := ⟨g, q, none⟩) (Nat.ne_of_gt lg) _), HPar2, Lib.hid ?_, Lib.hid ?_, Lib.hid ?_⟩
          · rw [HFL.out, hfl]
            exact set_own HOR2.out hqL
          · exact (heap_setCell_other _ _ _ _ (by show w1.heap.size ≠ g; omega)).trans HTY.out
          · exact Below.drew (Below.setCell HBY.out szg _)
        case measure => simp [intOf]; omega
      · have er8 : (i : Int) % 8 = 1 := by omega
        have HQR := Lib.hid hqr
        clear hqr
        have hxr : bits .xor .u8 (x : Int) 2 = ((x ^^^ 2 : Nat) : Int) := u8_xor_nat x 2 hx8 (by omega)
        obtain ⟨y, hy⟩ : ∃ y, x ^^^ 2 = y := ⟨_, rfl⟩
        rw [hy] at hxr
        have HY := Lib.hid hy
        clear hy
        (refine Reg.quiet_tail 10 (by kernel_rfl) (by kernel_rfl) ?_; simp only [List.take_succ_cons, List.take_zero, List.drop_succ_cons, List.drop_zero]; (repeat go_big_quiet_step (fail)); refine wpQuiet_nil ?_)
        go_wp2
        have hfl : CrcP.flip (flips zs ([i0, i1, i2].take k)) i = (flips zs ([i0, i1, i2].take k)).set q (y : Int) := by
          unfold CrcP.flip
          have hqr := HQR.out
          rw [show i / 8 = q by omega, show i % 8 = 1 by omega, HX.out, Int.toNat_natCast, ← HY.out]
        go_roundw
        case rel =>
          refine ⟨k + 1, _, by omega, by go_num, Lib.hid (HMY.out.setCell (a := ⟨g, q, none⟩) (Nat.ne_of_gt lg) _), HPar2, Lib.hid ?_, Lib.hid ?_, Lib.hid ?_⟩
          · rw [HFL.out, hfl]
            exact set_own HOR2.out hqL
          · exact (heap_setCell_other _ _ _ _ (by show w1.heap.size ≠ g; omega)).trans HTY.out
          · exact Below.drew (Below.setCell HBY.out szg _)
        case measure => simp [intOf]; omega
      · have er8 : (i : Int) % 8 = 2 := by omega
        have HQR := Lib.hid hqr
        clear hqr
        have hxr : bits .xor .u8 (x : Int) 4 = ((x ^^^ 4 : Nat) : Int) := u8_xor_nat x 4 hx8 (by omega)
        obtain ⟨y, hy⟩ : ∃ y, x ^^^ 4 = y := ⟨_, rfl⟩
        rw [hy] at hxr
        have HY := Lib.hid hy
        clear hy
        (refine Reg.quiet_tail 10 (by kernel_rfl) (by kernel_rfl) ?_; simp only [List.take_succ_cons, List.take_zero, List.drop_succ_cons, List.drop_zero]; (repeat go_big_quiet_step (fail)); refine wpQuiet_nil ?_)
        go_wp2
        have hfl : CrcP.flip (flips zs ([i0, i1, i2].take k)) i = (flips zs ([i0, i1, i2].take k)).set q (y : Int) := by
          unfold CrcP.flip
          have hqr := HQR.out
          rw [show i / 8 = q by omega, show i % 8 = 2 by omega, HX.out, Int.toNat_natCast, ← HY.out]
        go_roundw
        case rel =>
          refine ⟨k + 1, _, by omega, by go_num, Lib.hid (HMY.out.setCell (a := ⟨g, q, none⟩) (Nat.ne_of_gt lg) _), HPar2, Lib.hid ?_, Lib.hid ?_, Lib.hid ?_⟩
          · rw [HFL.out, hfl]
            exact set_own HOR2.out hqL
          · exact (heap_setCell_other _ _ _ _ (by show w1.heap.size ≠ g; omega)).trans HTY.out
          · exact Below.drew (Below.setCell HBY.out szg _)
        case measure => simp [intOf]; omega
      · have er8 : (i : Int) % 8 = 3 := by omega
        have HQR := Lib.hid hqr
        clear hqr
        have hxr : bits .xor .u8 (x : Int) 8 = ((x ^^^ 8 : Nat) : Int) := u8_xor_nat x 8 hx8 (by omega)
        obtain ⟨y, hy⟩ : ∃ y, x ^^^ 8 = y := ⟨_, rfl⟩
        rw [hy] at hxr
        have HY := Lib.hid hy
        clear hy
        (refine Reg.quiet_tail 10 (by kernel_rfl) (by kernel_rfl) ?_; simp only [List.take_succ_cons, List.take_zero, List.drop_succ_cons, List.drop_zero]; (repeat go_big_quiet_step (fail)); refine wpQuiet_nil ?_)
        go_wp2
        have hfl : CrcP.flip (flips zs ([i0, i1, i2].take k)) i = (flips zs ([i0, i1, i2].take k)).set q (y : Int) := by
          unfold CrcP.flip
          have hqr := HQR.out
          rw [show i / 8 = q by omega, show i % 8 = 3 by omega, HX.out, Int.toNat_natCast, ← HY.out]
        go_roundw
        case rel =>
          refine ⟨k + 1, _, by omega, by go_num, Lib.hid (HMY.out.setCell (a := ⟨g, q, none⟩) (Nat.ne_of_gt lg) _), HPar2, Lib.hid ?_, Lib.hid ?_, Lib.hid ?_⟩
          · rw [HFL.out, hfl]
            exact set_own HOR2.out hqL
          · exact (heap_setCell_other _ _ _ _ (by show w1.heap.size ≠ g; omega)).trans HTY.out
          · exact Below.drew (Below.setCell HBY.out szg _)
        case measure => simp [intOf]; omega
      · have er8 : (i : Int) % 8 = 4 := by omega
        have HQR := Lib.hid hqr
        clear hqr
        have hxr : bits .xor .u8 (x : Int) 16 = ((x ^^^ 16 : Nat) : Int) := u8_xor_nat x 16 hx8 (by omega)
        obtain ⟨y, hy⟩ : ∃ y, x ^^^ 16 = y := ⟨_, rfl⟩
        rw [hy] at hxr
        have HY := Lib.hid hy
        clear hy
        (refine Reg.quiet_tail 10 (by kernel_rfl) (by kernel_rfl) ?_; simp only [List.take_succ_cons, List.take_zero, List.drop_succ_cons, List.drop_zero]; (repeat go_big_quiet_step (fail)); refine wpQuiet_nil ?_)
        go_wp2
        have hfl : CrcP.flip (flips zs ([i0, i1, i2].take k)) i = (flips zs ([i0, i1, i2].take k)).set q (y : Int) := by
          unfold CrcP.flip
          have hqr := HQR.out
          rw [show i / 8 = q by omega, show i % 8 = 4 by omega, HX.out, Int.toNat_natCast, ← HY.out]
        go_roundw
        case rel =>
          refine ⟨k + 1, _, by omega, by go_num, Lib.hid (HMY.out.setCell (a := ⟨g, q, none⟩) (Nat.ne_of_gt lg) _), HPar2, Lib.hid ?_, Lib.hid ?_, Lib.hid ?_⟩
          · rw [HFL.out, hfl]
            exact set_own HOR2.out hqL
          · exact (heap_setCell_other _ _ _ _ (by show w1.heap.size ≠ g; omega)).trans HTY.out
          · exact Below.drew (Below.setCell HBY.out szg _)
        case measure => simp [intOf]; omega
      · have er8 : (i : Int) % 8 = 5 := by omega
        have HQR := Lib.hid hqr
        clear hqr
        have hxr : bits .xor .u8 (x : Int) 32 = ((x ^^^ 32 : Nat) : Int) := u8_xor_nat x 32 hx8 (by omega)
        obtain ⟨y, hy⟩ : ∃ y, x ^^^ 32 = y := ⟨_, rfl⟩
        rw [hy] at hxr
        have HY := Lib.hid hy
        clear hy
        (refine Reg.quiet_tail 10 (by kernel_rfl) (by kernel_rfl) ?_; simp only [List.take_succ_cons, List.take_zero, List.drop_succ_cons, List.drop_zero]; (repeat go_big_quiet_step (fail)); refine wpQuiet_nil ?_)
        go_wp2
        have hfl : CrcP.flip (flips zs ([i0, i1, i2].take k)) i = (flips zs ([i0, i1, i2].take k)).set q (y : Int) := by
          unfold CrcP.flip
          have hqr := HQR.out
          rw [show i / 8 = q by omega, show i % 8 = 5 by omega, HX.out, Int.toNat_natCast, ← HY.out]
        go_roundw
        case rel =>
          refine ⟨k + 1, _, by omega, by go_num, Lib.hid (HMY.out.setCell (a := ⟨g, q, none⟩) (Nat.ne_of_gt lg) _), HPar2, Lib.hid ?_, Lib.hid ?_, Lib.hid ?_⟩
          · rw [HFL.out, hfl]
            exact set_own HOR2.out hqL
          · exact (heap_setCell_other _ _ _ _ (by show w1.heap.size ≠ g; omega)).trans HTY.out
          · exact Below.drew (Below.setCell HBY.out szg _)
        case measure => simp [intOf]; omega
      · have er8 : (i : Int) % 8 = 6 := by omega
        have HQR := Lib.hid hqr
        clear hqr
        have hxr : bits .xor .u8 (x : Int) 64 = ((x ^^^ 64 : Nat) : Int) := u8_xor_nat x 64 hx8 (by omega)
        obtain ⟨y, hy⟩ : ∃ y, x ^^^ 64 = y := ⟨_, rfl⟩
        rw [hy] at hxr
        have HY := Lib.hid hy
        clear hy
        (refine Reg.quiet_tail 10 (by kernel_rfl) (by kernel_rfl) ?_; simp only [List.take_succ_cons, List.take_zero, List.drop_succ_cons, List.drop_zero]; (repeat go_big_quiet_step (fail)); refine wpQuiet_nil ?_)
        go_wp2
        have hfl : CrcP.flip (flips zs ([i0, i1, i2].take k)) i = (flips zs ([i0, i1, i2].take k)).set q (y : Int) := by
          unfold CrcP.flip
          have hqr := HQR.out
          rw [show i / 8 = q by omega, show i % 8 = 6 by omega, HX.out, Int.toNat_natCast, ← HY.out]
        go_roundw
        case rel =>
          refine ⟨k + 1, _, by omega, by go_num, Lib.hid (HMY.out.setCell (a := ⟨g, q, none⟩) (Nat.ne_of_gt lg) _), HPar2, Lib.hid ?_, Lib.hid ?_, Lib.hid ?_⟩
          · rw [HFL.out, hfl]
            exact set_own HOR2.out hqL
          · exact (heap_setCell_other _ _ _ _ (by show w1.heap.size ≠ g; omega)).trans HTY.out
          · exact Below.drew (Below.setCell HBY.out szg _)
        case measure => simp [intOf]; omega
      · have er8 : (i : Int) % 8 = 7 := by omega
        have HQR := Lib.hid hqr
        clear hqr
        have hxr : bits .xor .u8 (x : Int) 128 = ((x ^^^ 128 : Nat) : Int) := u8_xor_nat x 128 hx8 (by omega)
        obtain ⟨y, hy⟩ : ∃ y, x ^^^ 128 = y := ⟨_, rfl⟩
        rw [hy] at hxr
        have HY := Lib.hid hy
        clear hy
        (refine Reg.quiet_tail 10 (by kernel_rfl) (by kernel_rfl) ?_; simp only [List.take_succ_cons, List.take_zero, List.drop_succ_cons, List.drop_zero]; (repeat go_big_quiet_step (fail)); refine wpQuiet_nil ?_)
        go_wp2
        have hfl : CrcP.flip (flips zs ([i0, i1, i2].take k)) i = (flips zs ([i0, i1, i2].take k)).set q (y : Int) := by
          unfold CrcP.flip
          have hqr := HQR.out
          rw [show i / 8 = q by omega, show i % 8 = 7 by omega, HX.out, Int.toNat_natCast, ← HY.out]
        go_roundw
        case rel =>
          refine ⟨k + 1, _, by omega, by go_num, Lib.hid (HMY.out.setCell (a := ⟨g, q, none⟩) (Nat.ne_of_gt lg) _), HPar2, Lib.hid ?_, Lib.hid ?_, Lib.hid ?_⟩
          · rw [HFL.out, hfl]
            exact set_own HOR2.out hqL
          · exact (heap_setCell_other _ _ _ _ (by show w1.heap.size ≠ g; omega)).trans HTY.out
          · exact Below.drew (Below.setCell HBY.out szg _)
        case measure => simp [intOf]; omega
    · have hk3 : k = 3 := by omega
      have hk3' : ¬ (k : Int) < 3 := by omega
      rw [hk3] at HM HPar HOR
      clear hlt hk hk3
      have hhas : Maps.has D (.int .i64 (p : Int)) = true := par_has (ps := [i0, i1, i2]) HPar.out HODD.out.1
      have HAT := Lib.hid (show D.atKey (.int .i64 (p : Int)) (.lit (.bool false)) = .lit (.bool true) from (HPar.out p).trans (by rw [show [i0, i1, i2].take 3 = [i0, i1, i2] from rfl, HODD.out.1]))
      have szr : w.heap.size ≤ wr.heap.size := HBr.out.size
      clear hmm HIX HPar
      go_wp2_with (first
        | (at_range; refine wpList_range_own _ rfl _ 34 rfl 3 4 law_int Try.underlying34 (plainElem Try.prog 4) w3.heap.size 3 D rfl HM.out ?_; intro Z hrg0 hg0 hs0)
        | fail)
      try go_frame
      obtain ⟨rr, hrr⟩ : ∃ rr, wr.heap.size = rr := ⟨_, rfl⟩
      rw [hrr] at hrg0 hs0 szr ⊢
      go_loopw [16] (fun s wz => ∃ (left : Lit → Bool) (cnt : Nat), Hid (Loose s p left) ∧ wz.ranges Try.prog 3 (plainElem Try.prog 4) w3.heap.size rr 3 D left cnt ∧ Hid (wz.ownsRow W.heap.size 5 1 (.slice (some ⟨g, 0, none⟩) len0 c3) len0 (u8s (flips zs [i0, i1, i2]))) ∧ Hid (blk wz w1.heap.size = some (.cells (cs .u32 tblL) 26 (0, 0))) ∧ Hid (Below w.heap.size w wz)) (fun _ wz => wz.rangeLeft w3.heap.size rr)
      case atStart =>
        have hbz := bel_none hg0 (Nat.le_refl _)
        exact ⟨_, _, Lib.hid ⟨true, rfl, .inr hhas⟩, hrg0, Lib.hid (own_bel HOR.out hbz), Lib.hid ((blk_below hbz _ (blk_lt HTr.out)).trans HTr.out), Lib.hid (HBr.out.trans (bel_none hg0 HBr.out.size))⟩
      case round =>
        clear hrg0 hg0 hs0 HOR HTr HBr HM
        obtain ⟨left, cnt, HLo, hrg, HOZ, HTZ, HBZ⟩ := hrel
        obtain ⟨b, rfl, hLf⟩ := HLo.out
        have HLf := Lib.hid hLf
        clear hLf HLo
        go_wp2_with (first
          | (at_next; refine CrcQ.wpList_next_ranges_ib _ rfl _ rfl 3 4 .i64 law_int underlying_int und_bool w3.heap.size rr 3 _ _ _ rfl hrg (fun hc0 hl0 => ?_) (fun x c Z1 cnt1 hwx hlx hat hrg1 hlt1 hg1 hs1 hen => ?_))
          | fail)
        · obtain rfl : b = false := by
            rcases HLf.out with h | h
            · exact h
            · rw [hl0] at h; cases h
          have hbF : B8s (flips zs [i0, i1, i2]) := flips_b8 HZ.out.2.1 _
          have HBF := Lib.hid hbF
          have HLE := Lib.hid (show (flips zs [i0, i1, i2]).length = len0 from (CrcQ.flips_len zs _ zs).trans HZ.out.1)
          have HRO := Lib.hid (Reads.of_owns HOZ.out)
          have HRB := Lib.hid (HZ.out.2.2.below HBZ.out (Nat.le_refl _))
          have hne : ¬ ((onV 0 (flips zs [i0, i1, i2]) : Nat) : Int) = ((onV 0 zs : Nat) : Int) := fun e => by
            have e2 : onV 0 (flips zs [i0, i1, i2]) = onV 0 zs := by omega
            simp only [onV, Nat.sub_zero] at e2
            have f1 := onF_lt (flips zs [i0, i1, i2]) 4294967295 hbF (by omega)
            have f2 := onF_lt zs 4294967295 HZ.out.2.1 (by omega)
            exact HODD.out.2 (by show onF 4294967295 (flips zs [i0, i1, i2]) = _; omega)
          have HNE := Lib.hid hne
          clear hrg hbF HLf HOZ hne
          go_upto_region 19 with (fail)
          refine Pred.region_vals (Pred.Of [
              Is (.agg (cs .u32 tblL)),
              Is (.slice (some ⟨g, 0, none⟩) len0 c3),
              Is (.int .u32 ((onV 0 (flips zs [i0, i1, i2]) : Nat) : Int)),
              Is (.agg (cs .u32 tblL)),
              Is (.slice a0 len0 cap0),
              Is (.int .u32 ((onV 0 zs : Nat) : Int)),
              Is (.bool false),
              Is (.bool false),
              Is (.bool true),
              Is (.bool true),
              Is (.bool true),
              Is (.bool true),
              Is (.bool true)]) (by kernel_rfl) (by kernel_rfl) (by kernel_rfl) (Pred.of_stab ?_) ?_ ?_
          · exact ⟨is_stab _, is_stab _, is_stab _, is_stab _, is_stab _, is_stab _, is_stab _, is_stab _, is_stab _, is_stab _, is_stab _, is_stab _, is_stab _, trivial⟩
          · refine ⟨?_, ?_, ?_, ?_, ?_, ?_, ?_, ?_, ?_, ?_, ?_, ?_, ?_, trivial⟩
            · intro b X hE hd hn hV
              have r9 : b.tmps[9]?.getD undef = .pointer (some ⟨w1.heap.size, 0, none⟩) := (hn 9 (by kernel_rfl)).trans rfl
              have q := (blk_below hE _ (blk_lt HTZ.out)).trans HTZ.out
              exact Pred.yields_run (v := .agg (cs .u32 tblL)) (Pred.wanted_none rfl) (by go_simp) ⟨Pred.ext_refl _ _, rfl⟩
            · intro b X hE hd hn hV
              have r11 : b.tmps[11]?.getD undef = .slice (some ⟨g, 0, none⟩) len0 c3 := (hn 11 (by kernel_rfl)).trans rfl
              exact Pred.yields_run (v := .slice (some ⟨g, 0, none⟩) len0 c3) (Pred.wanted_none rfl) (by go_simp) ⟨Pred.ext_refl _ _, rfl⟩
            · intro b X hE hd hn hV
              have r74 : b.tmps[74]?.getD undef = .agg (cs .u32 tblL) := hV 0 _ 74 rfl rfl (Pred.waits_near (by kernel_rfl) (by kernel_rfl))
              have r75 : b.tmps[75]?.getD undef = .slice (some ⟨g, 0, none⟩) len0 c3 := hV 1 _ 75 rfl rfl (Pred.waits_near (by kernel_rfl) (by kernel_rfl))
              refine Pred.yields_call (f := 10) (args := #[.agg (cs .u32 tblL), .slice (some ⟨g, 0, none⟩) len0 c3]) (Pred.wanted_none rfl) (by go_simp) ?_
              exact (of_any _ _ _ (flips zs [i0, i1, i2]) _ (HRO.out.below hE (Nat.le_refl _)) HBF.out (by omega)).mono fun e w2 ⟨he, hb⟩ => ⟨_, he, Pred.ext_below hb hE.size, rfl⟩
            · intro b X hE hd hn hV
              have r9 : b.tmps[9]?.getD undef = .pointer (some ⟨w1.heap.size, 0, none⟩) := (hn 9 (by kernel_rfl)).trans rfl
              have q := (blk_below hE _ (blk_lt HTZ.out)).trans HTZ.out
              exact Pred.yields_run (v := .agg (cs .u32 tblL)) (Pred.wanted_none rfl) (by go_simp) ⟨Pred.ext_refl _ _, rfl⟩
            · intro b X hE hd hn hV
              have r0 : b.tmps[0]?.getD undef = .slice a0 len0 cap0 := (hn 0 (by kernel_rfl)).trans rfl
              exact Pred.yields_run (v := .slice a0 len0 cap0) (Pred.wanted_none rfl) (by go_simp) ⟨Pred.ext_refl _ _, rfl⟩
            · intro b X hE hd hn hV
              have r77 : b.tmps[77]?.getD undef = .agg (cs .u32 tblL) := hV 3 _ 77 rfl rfl (Pred.waits_near (by kernel_rfl) (by kernel_rfl))
              have r78 : b.tmps[78]?.getD undef = .slice a0 len0 cap0 := hV 4 _ 78 rfl rfl (Pred.waits_near (by kernel_rfl) (by kernel_rfl))
              refine Pred.yields_call (f := 10) (args := #[.agg (cs .u32 tblL), .slice a0 len0 cap0]) (Pred.wanted_none rfl) (by go_simp) ?_
              exact (of_any _ _ _ zs _ (HRB.out.below hE (Nat.le_refl _)) HZ.out.2.1 (by omega)).mono fun e w2 ⟨he, hb⟩ => ⟨_, he, Pred.ext_below hb hE.size, rfl⟩
            · intro b X hE hd hn hV
              have r76 : b.tmps[76]?.getD undef = .int .u32 ((onV 0 (flips zs [i0, i1, i2]) : Nat) : Int) := hV 2 _ 76 rfl rfl (Pred.waits_near (by kernel_rfl) (by kernel_rfl))
              have r79 : b.tmps[79]?.getD undef = .int .u32 ((onV 0 zs : Nat) : Int) := hV 5 _ 79 rfl rfl (Pred.waits_near (by kernel_rfl) (by kernel_rfl))
              have hP := HNE.out
              exact Pred.yields_run (v := .bool false) (Pred.wanted_none rfl) (by go_simp) ⟨Pred.ext_refl _ _, rfl⟩
            · intro b X hE hd hn hV
              have r16 : b.tmps[16]?.getD undef = .bool false := (hn 16 (by kernel_rfl)).trans rfl
              exact Pred.yields_run (v := .bool false) (Pred.wanted_none rfl) (by go_simp) ⟨Pred.ext_refl _ _, rfl⟩
            · intro b X hE hd hn hV
              have r80 : b.tmps[80]?.getD undef = .bool false := hV 6 _ 80 rfl rfl (Pred.waits_near (by kernel_rfl) (by kernel_rfl))
              have r81 : b.tmps[81]?.getD undef = .bool false := hV 7 _ 81 rfl rfl (Pred.waits_near (by kernel_rfl) (by kernel_rfl))
              exact Pred.yields_run (v := .bool true) (Pred.wanted_none rfl) (by go_simp) ⟨Pred.ext_refl _ _, rfl⟩
            · intro b X hE hd hn hV
              have r82 : b.tmps[82]?.getD undef = .bool true := hV 8 _ 82 rfl rfl (Pred.waits_near (by kernel_rfl) (by kernel_rfl))
              exact Pred.yields_run (v := .bool true) (Pred.wanted_none rfl) (by go_simp) ⟨Pred.ext_refl _ _, rfl⟩
            · intro b X hE hd hn hV
              have r83 : b.tmps[83]?.getD undef = .bool true := hV 9 _ 83 rfl rfl (Pred.waits_near (by kernel_rfl) (by kernel_rfl))
              refine Pred.yields_call (f := 7) (args := #[]) ((Pred.wanted_at (g := 9) (d := 83) (f := true) rfl rfl r83).trans rfl) (by go_simp) ?_
              exact (awake_any _).mono fun e w2 ⟨he, hb⟩ => ⟨_, he, Pred.ext_below hb hE.size, rfl⟩
            · intro b X hE hd hn hV
              have r83 : b.tmps[83]?.getD undef = .bool true := hV 9 _ 83 rfl rfl (Pred.waits_near (by kernel_rfl) (by kernel_rfl))
              have r84 : b.tmps[84]?.getD undef = .bool true := hV 10 _ 84 rfl rfl (Pred.waits_near (by kernel_rfl) (by kernel_rfl))
              exact Pred.yields_run (v := .bool true) (Pred.wanted_none rfl) (by go_simp) ⟨Pred.ext_refl _ _, rfl⟩
            · intro b X hE hd hn hV
              have r85 : b.tmps[85]?.getD undef = .bool true := hV 11 _ 85 rfl rfl (Pred.waits_near (by kernel_rfl) (by kernel_rfl))
              exact Pred.yields_run (v := .bool true) (Pred.wanted_none rfl) (by go_simp) ⟨Pred.ext_refl _ _, rfl⟩
          intro v X hE hv
          have e0 : v 0 = .agg (cs .u32 tblL) := hv 0 _ 74 rfl rfl
          have e1 : v 1 = .slice (some ⟨g, 0, none⟩) len0 c3 := hv 1 _ 75 rfl rfl
          have e2 : v 2 = .int .u32 ((onV 0 (flips zs [i0, i1, i2]) : Nat) : Int) := hv 2 _ 76 rfl rfl
          have e3 : v 3 = .agg (cs .u32 tblL) := hv 3 _ 77 rfl rfl
          have e4 : v 4 = .slice a0 len0 cap0 := hv 4 _ 78 rfl rfl
          have e5 : v 5 = .int .u32 ((onV 0 zs : Nat) : Int) := hv 5 _ 79 rfl rfl
          have e6 : v 6 = .bool false := hv 6 _ 80 rfl rfl
          have e7 : v 7 = .bool false := hv 7 _ 81 rfl rfl
          have e8 : v 8 = .bool true := hv 8 _ 82 rfl rfl
          have e9 : v 9 = .bool true := hv 9 _ 83 rfl rfl
          have e10 : v 10 = .bool true := hv 10 _ 84 rfl rfl
          have e11 : v 11 = .bool true := hv 11 _ 85 rfl rfl
          have e12 : v 12 = .bool true := hv 12 _ 8 rfl rfl
          simp only [Pred.putsF_cons, Pred.putsF_nil, Nat.zero_add, Nat.reduceAdd, e0, e1, e2, e3, e4, e5, e6, e7, e8, e9, e10, e11, e12, Act.put, List.setIfInBounds_toArray, List.set_cons_zero, List.set_cons_succ]
          clear e0 e1 e2 e3 e4 e5 e6 e7 e8 e9 e10 e11 e12 hv
          have HF := Lib.hid (HBZ.out.trans (hE.mono HBZ.out.size))
          go_wp2
          go_ret
          exact ⟨rfl, HF.out⟩
        · rename_i hb
          have hOZ1 := Lib.hid (own_rng HOZ.out hrg hg1)
          have hTZ1 := Lib.hid (blk_rng HTZ.out hrg hg1)
          have hBZ1 := Lib.hid (HBZ.out.grown hg1 HBZ.out.size (fun j hj => by cases hj; exact szr))
          have hL1 : Hid ((b && !c) = false ∨ (left (.int .i64 (p : Int)) && !(Lit.int .i64 (p : Int)).sameKey (.int .i64 x)) = true) := Lib.hid (by
            by_cases hxp : x = (p : Int)
            · subst hxp
              have h9 := (hat (.lit (.bool false))).symm.trans HAT.out
              injection h9 with h9
              injection h9 with h9
              subst h9
              left; cases b <;> rfl
            · rcases HLf.out with h | h
              · left; rw [h]; rfl
              · right
                rw [h, Maps.sameKey_ne (by intro e; injection e with _ e; exact hxp e.symm)]
                rfl)
          subst hb
          exact ⟨⟨(fun z => left z && !z.sameKey (.int .i64 x)), cnt1, Lib.hid ⟨!c, rfl, hL1.out⟩, hrg1, hOZ1, hTZ1, hBZ1⟩, by rw [hrg1.left_eq, hrg.left_eq]; exact hlt1⟩
        · rename_i hb
          have hOZ1 := Lib.hid (own_rng HOZ.out hrg hg1)
          have hTZ1 := Lib.hid (blk_rng HTZ.out hrg hg1)
          have hBZ1 := Lib.hid (HBZ.out.grown hg1 HBZ.out.size (fun j hj => by cases hj; exact szr))
          have hL1 : Hid ((b && !c) = false ∨ (left (.int .i64 (p : Int)) && !(Lit.int .i64 (p : Int)).sameKey (.int .i64 x)) = true) := Lib.hid (by
            by_cases hxp : x = (p : Int)
            · subst hxp
              have h9 := (hat (.lit (.bool false))).symm.trans HAT.out
              injection h9 with h9
              injection h9 with h9
              subst h9
              left; cases b <;> rfl
            · rcases HLf.out with h | h
              · left; rw [h]; rfl
              · right
                rw [h, Maps.sameKey_ne (by intro e; injection e with _ e; exact hxp e.symm)]
                rfl)
          obtain rfl : b = false := by cases b <;> simp_all
          exact ⟨⟨(fun z => left z && !z.sameKey (.int .i64 x)), cnt1, Lib.hid ⟨false, rfl, hL1.out⟩, hrg1, hOZ1, hTZ1, hBZ1⟩, by rw [hrg1.left_eq, hrg.left_eq]; exact hlt1⟩
end Go.Proofs.Ytnlppgdkimaddaa.CrcR
