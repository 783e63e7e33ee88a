/-
  The law of package super: what is written is read; with bits turned it is none.
-/
import Derived.Test.YtbicgcnlijgjmaaSupD
import Derived.Test.YtbicgcnlijgjmaaSyn
import Derived.Test.YtbicgcnlijgjmaaAlike
import Derived.Test.YtbicgcnlijgjmaaApp
import Derived.Test.YtbicgcnlijgjmaaFlat
namespace Go.Proofs.Ytbicgcnlijgjmaa.SupF
open Go.RowKit Rd Go.Proofs.Ytbicgcnlijgjmaa.Row OctA OctB SupA SupB SupC SupD Syn Alk
open CrcA (tblL tblL_len tblL_at tblF byteN)
open CrcB (onV onF onF_lt)
set_option linter.unusedVariables false
set_option linter.unusedSimpArgs false
set_option maxRecDepth 100000
attribute [local go_sem ↓] CrcA.load_tbl CrcA.store_tbl load_sup store_sup alloc_sup eq_sup
attribute [local go_sem] CrcA.run_load_tbl CrcA.run_store_tbl run_alloc_sup run_load_sup run_store_sup rowLoad_eq rowStore_eq blk_alloc_at blk_alloc_old blk_drew blk_drewN blk_set_far blk_set_far' blk_grow setRow_alloc_at setRow_alloc_old setRow_drew setRow_drewN all_map one_int blkV_size blkV_all blkV_all6 zeroB_size zeroB_all6 one_bool
attribute [local go_sem ↓] CrcA.alloc_tbl
attribute [local go_sem] CrcA.run_alloc_tbl

theorem byt_nat (v i : Nat) : byt (v : Int) i = ((v / 256 ^ i % 256 : Nat) : Int) := by unfold byt; omega
theorem getN4 {v : Int} (h : 0 ≤ v ∧ v ≤ 4294967295) : (getN [byt v 3, byt v 2, byt v 1, byt v 0] : Int) = v := by
  obtain ⟨n, rfl⟩ := Int.eq_ofNat_of_zero_le h.1
  have := getN_byts (v := n) (by omega)
  rw [show byts (n : Int) 4 = [byt n 3, byt n 2, byt n 1, byt n 0] from rfl] at this
  rw [this]
theorem getN2 {v : Int} (h : 0 ≤ v ∧ v ≤ 65535) : (getN [byt v 1, byt v 0] : Int) = v := by
  simp only [byt, getN, List.foldl_cons, List.foldl_nil, Nat.pow_zero, Nat.pow_one, Nat.zero_mul, Nat.zero_add]
  omega
theorem getN1 {v : Int} (h : 0 ≤ v ∧ v ≤ 255) : (getN [byt v 0] : Int) = v := by
  simp only [byt, getN, List.foldl_cons, List.foldl_nil, Nat.pow_zero, Nat.pow_one, Nat.zero_mul, Nat.zero_add]
  omega
theorem may_bds {g d s l : Int} (h : mayB g d s l = true) : (0 ≤ g ∧ g ≤ 4294967295) ∧ (0 ≤ d ∧ d ≤ 3) ∧ (0 ≤ s ∧ s ≤ 65535) ∧ (0 ≤ l ∧ l ≤ 65535) := by
  unfold mayB at h
  simp only [Bool.and_eq_true] at h
  exact ⟨wI_yes h.1.1.1, wI_yes h.1.1.2, wI_yes h.1.2, wI_yes h.2⟩
theorem enc_flds {g d : Int} {r : Bool} {s l m : Int} (h : mayB g d s l = true) (hm : 0 ≤ m ∧ m ≤ 4294967295) : ((fld (encL g d r s l m) 4 4 : Nat) : Int) = g ∧ ((fld (encL g d r s l m) 8 1 : Nat) : Int) = d ∧ decR (encL g d r s l m) = r ∧
    ((fld (encL g d r s l m) 10 2 : Nat) : Int) = s ∧ ((fld (encL g d r s l m) 12 2 : Nat) : Int) = l ∧ ((fld (encL g d r s l m) 14 4 : Nat) : Int) = m := by
  obtain ⟨hg, hd, hs, hl⟩ := may_bds h
  refine ⟨?_, ?_, ?_, ?_, ?_, ?_⟩
  · exact (congrArg _ (show fld (encL g d r s l m) 4 4 = getN [byt g 3, byt g 2, byt g 1, byt g 0] from rfl)).trans (getN4 hg)
  · exact (congrArg _ (show fld (encL g d r s l m) 8 1 = getN [byt d 0] from rfl)).trans (getN1 (by omega))
  · show decide (byt (wr1 r) 0 = 1) = r
    cases r <;> rfl
  · exact (congrArg _ (show fld (encL g d r s l m) 10 2 = getN [byt s 1, byt s 0] from rfl)).trans (getN2 hs)
  · exact (congrArg _ (show fld (encL g d r s l m) 12 2 = getN [byt l 1, byt l 0] from rfl)).trans (getN2 hl)
  · exact (congrArg _ (show fld (encL g d r s l m) 14 4 = getN [byt m 3, byt m 2, byt m 1, byt m 0] from rfl)).trans (getN4 hm)
theorem enc_dec {g d : Int} {r : Bool} {s l m : Int} (h : mayB g d s l = true) (hm : 0 ≤ m ∧ m ≤ 4294967295) : decRes (encL g d r s l m) = #[.agg (blkV g d r s l m), .int .i64 0] := by
  obtain ⟨h1, h2, h3, h4, h5, h6⟩ := enc_flds (r := r) h hm
  have hok : decOK (encL g d r s l m) = true := by
    unfold decOK decM decE
    rw [h1, h2, h3, h4, h5, h6, h]
    simp
  rw [decRes_yes hok]
  unfold decV
  rw [h1, h2, h3, h4, h5, h6]
theorem ok_syn {zs : List Int} (h : decOK zs = true) : syn zs = 0 := by
  unfold decOK at h
  simp only [Bool.and_eq_true, decide_eq_true_eq] at h
  rw [← h.2]
  unfold decE encL
  exact syn_written (encB_len _ _ _ _ _ _) (encB_bd _ _ _ _ _ _)
theorem enc_syn (g d : Int) (r : Bool) (s l m : Int) : syn (encL g d r s l m) = 0 := by
  unfold encL
  exact syn_written (encB_len _ _ _ _ _ _) (encB_bd _ _ _ _ _ _)
theorem eq_zero (w : World) : (Op.equalIn 10000 24 (.agg zeroB) (.agg #[.int .i64 0, .int .i64 0, .bool false, .int .i64 0, .int .i64 0, .int .u32 0])).run Try.prog w = .ok true w := by
  have := eq_sup 0 0 false 0 0 0 0 0 false 0 0 0 w
  exact this
attribute [local go_sem ↓] eq_zero
/-- what has been turned behind so many rounds -/
def turned (zs : List Int) (k0 k1 k2 : Nat) : Nat → List Int
  | 0 => zs
  | 1 => flip zs k0
  | 2 => flip (flip zs k0) k1
  | _ => flip (flip (flip zs k0) k1) k2
theorem turned_len {zs : List Int} (h : zs.length = 32) (k0 k1 k2 : Nat) : ∀ j, (turned zs k0 k1 k2 j).length = 32
  | 0 => h
  | 1 => flip_len h _
  | 2 => flip_len (flip_len h _) _
  | _ + 3 => flip_len (flip_len (flip_len h _) _) _
theorem turned_b8 {zs : List Int} (h : B8s zs) (k0 k1 k2 : Nat) : ∀ j, B8s (turned zs k0 k1 k2 j)
  | 0 => h
  | 1 => flip_b8 h _
  | 2 => flip_b8 (flip_b8 h _) _
  | _ + 3 => flip_b8 (flip_b8 (flip_b8 h _) _) _
theorem take_set {C : Array Value} {n i : Nat} {xs : List Int} {x : Int} (h : C.toList.take n = u8s xs) (hi : i < n) : (C.setIfInBounds i (.int .u8 x)).toList.take n = u8s (xs.set i x) := by
  rw [Array.toList_setIfInBounds, List.take_set, h]
  simp [u8s, List.map_set]
theorem pow_bit (k : Nat) : (2 : Int) ^ (k % 8) % 256 = (bitV k : Int) := by
  have h := Nat.mod_lt k (show 0 < 8 by omega)
  unfold bitV
  generalize k % 8 = m at h
  have : m = 0 ∨ m = 1 ∨ m = 2 ∨ m = 3 ∨ m = 4 ∨ m = 5 ∨ m = 6 ∨ m = 7 := by omega
  rcases this with rfl | rfl | rfl | rfl | rfl | rfl | rfl | rfl <;> rfl
theorem shl_bit (k : Nat) : Op.shift .shl .u8 1 .i64 (((k % 8 : Nat) : Int)) = pure (.int .u8 (bitV k)) := by
  rw [shift_shl_any _ _ _ _ (by omega)]
  have h := Nat.mod_lt k (show 0 < 8 by omega)
  unfold bitV
  generalize k % 8 = m at h
  have : m = 0 ∨ m = 1 ∨ m = 2 ∨ m = 3 ∨ m = 4 ∨ m = 5 ∨ m = 6 ∨ m = 7 := by omega
  rcases this with rfl | rfl | rfl | rfl | rfl | rfl | rfl | rfl <;> rfl
set_option maxHeartbeats 8000000 in
theorem SuperBack_walk (a0_0 : Int) (a0_1 : Int) (a0_2 : Bool) (a0_3 : Int) (a0_4 : Int) (a0_5 : Int) (a1_0 : Int) (a1_1 : Int) (a1_2 : Int) (w : World) (w0_0 : (Lit.int .i64 a0_0).wf = true) (w0_1 : (Lit.int .i64 a0_1).wf = true) (w0_3 : (Lit.int .i64 a0_3).wf = true) (w0_4 : (Lit.int .i64 a0_4).wf = true) (w0_5 : (Lit.int .u32 a0_5).wf = true) (w1_0 : (Lit.int .i64 a1_0).wf = true) (w1_1 : (Lit.int .i64 a1_1).wf = true) (w1_2 : (Lit.int .i64 a1_2).wf = true) :
    Calls Try.prog 4 #[.agg #[.int .i64 a0_0, .int .i64 a0_1, .bool a0_2, .int .i64 a0_3, .int .i64 a0_4, .int .u32 a0_5], .agg #[.int .i64 a1_0, .int .i64 a1_1, .int .i64 a1_2]] w fun e w' => e = .returned (.bool true) ∧ Below w.heap.size w w' := by
  have hm := bounds_u32 w0_5
  have b0 := bounds_i64 w1_0
  have b1 := bounds_i64 w1_1
  have b2 := bounds_i64 w1_2
  have bg := bounds_i64 w0_0
  have bd := bounds_i64 w0_1
  have bs := bounds_i64 w0_3
  have bl := bounds_i64 w0_4
  clear w0_0 w0_1 w0_3 w0_4 w0_5 w1_0 w1_1 w1_2
  show Calls Try.prog _ #[.agg (blkV a0_0 a0_1 a0_2 a0_3 a0_4 a0_5), .agg #[.int .i64 a1_0, .int .i64 a1_1, .int .i64 a1_2]] w _
  have hl := tblL_len
  cases hM : mayB a0_0 a0_1 a0_3 a0_4
  · go_enter Try.func4, Try.ntmps4
    go_wp2_with fail
    refine (CrcA.make_any _).mono ?_
    rintro e w1 ⟨rfl, hb1⟩
    have s1 := hb1.size
    simp only [World.size_alloc] at s1
    have x1 := (blk_below hb1 w.heap.size (by simp <;> omega)).trans (blk2_0 w _ _)
    have l1 := blk_lt x1
    have L1 : Below w.heap.size w w1 := by repeat' (first | (with_reducible exact Below.refl _ _) | (with_reducible refine Rd.below_step ?_ (by assumption)) | (with_reducible refine Rd.below_alloc ?_ _) | (with_reducible refine Rd.below_drewN ?_ _) | (with_reducible refine Below.drew ?_) | (with_reducible refine Below.setCell ?_ ?_ _) | (with_reducible refine Rd.below_setRow ?_ ?_ _) | go_size | (simp only [World.size_alloc]; omega) | omega)
    clear hb1
    go_wp2_with fail
    refine (encode_no _ _ _ _ _ _ _ hM).mono ?_
    rintro e w2 ⟨rfl, hb2⟩
    have s2 := hb2.size
    go_wp2_with (go_at_call 6; refine (awake_any _).mono ?_; rintro e Z ⟨rfl, hb⟩)
    go_ret
    exact ⟨rfl, by repeat' (first | (with_reducible exact Below.refl _ _) | (with_reducible refine Rd.below_step ?_ (by assumption)) | (with_reducible refine Rd.below_alloc ?_ _) | (with_reducible refine Rd.below_drewN ?_ _) | (with_reducible refine Below.drew ?_) | (with_reducible refine Below.setCell ?_ ?_ _) | (with_reducible refine Rd.below_setRow ?_ ?_ _) | go_size | (simp only [World.size_alloc]; omega) | omega)⟩
  have HM := Lib.hid hM
  obtain ⟨k0, hk0⟩ := Int.eq_ofNat_of_zero_le (show 0 ≤ a1_0 % 256 by omega)
  obtain ⟨k1, hk1⟩ := Int.eq_ofNat_of_zero_le (show 0 ≤ a1_1 % 256 by omega)
  obtain ⟨k2, hk2⟩ := Int.eq_ofNat_of_zero_le (show 0 ≤ a1_2 % 256 by omega)
  have q0 : k0 < 256 := by omega
  have q1 : k1 < 256 := by omega
  have q2 : k2 < 256 := by omega
  have HK0 := Lib.hid hk0
  have HK1 := Lib.hid hk1
  have HK2 := Lib.hid hk2
  clear hk0 hk1 hk2 hM
  go_enter Try.func4, Try.ntmps4
  go_wp2_with fail
  refine (CrcA.make_any _).mono ?_
  rintro e w1 ⟨rfl, hb1⟩
  have s1 := hb1.size
  simp only [World.size_alloc] at s1
  have x1 := (blk_below hb1 w.heap.size (by simp <;> omega)).trans (blk2_0 w _ _)
  have y1 := (blk_below hb1 (w.heap.size + 1) (by simp)).trans (blk2_1 w _ _)
  have l1 := blk_lt x1
  have L1 : Below w.heap.size w w1 := by repeat' (first | (with_reducible exact Below.refl _ _) | (with_reducible refine Rd.below_step ?_ (by assumption)) | (with_reducible refine Rd.below_alloc ?_ _) | (with_reducible refine Rd.below_drewN ?_ _) | (with_reducible refine Below.drew ?_) | (with_reducible refine Below.setCell ?_ ?_ _) | (with_reducible refine Rd.below_setRow ?_ ?_ _) | go_size | (simp only [World.size_alloc]; omega) | omega)
  have x1' : blk (w1.alloc (.cells (cs .u32 tblL) 28)) w.heap.size = _ := (blk_alloc_old _ _ _ l1).trans x1
  have y1' : blk (w1.alloc (.cells (cs .u32 tblL) 28)) (w.heap.size + 1) = _ := (blk_alloc_old _ _ _ (blk_lt y1)).trans y1
  have t1' : blk (w1.alloc (.cells (cs .u32 tblL) 28)) w1.heap.size = _ := blk_alloc_at _ _ _ rfl
  clear hb1
  go_wp2_with fail
  refine (encode_yes _ _ _ _ _ _ _ HM.out bg bd bs bl hm).mono ?_
  rintro e w2 ⟨a3, c3, rfl, hc1, hc2, hR, hb2⟩
  have s2 := hb2.size
  simp only [World.size_alloc] at s2
  have x2 := (blk_below hb2 _ (by simp; omega)).trans x1'
  have y2 := (blk_below hb2 _ (by simp; omega)).trans y1'
  have t2 := (blk_below hb2 _ (by simp)).trans t1'
  have L2 : Below w.heap.size w w2 := by repeat' (first | (with_reducible exact Below.refl _ _) | (with_reducible refine Rd.below_step ?_ (by assumption)) | (with_reducible refine Rd.below_alloc ?_ _) | (with_reducible refine Rd.below_drewN ?_ _) | (with_reducible refine Below.drew ?_) | (with_reducible refine Below.setCell ?_ ?_ _) | (with_reducible refine Rd.below_setRow ?_ ?_ _) | go_size | (simp only [World.size_alloc]; omega) | omega)
  clear hb2 x1' y1' t1' x1 y1 l1 L1
  have lx := blk_lt x2
  have ly := blk_lt y2
  have lt := blk_lt t2
  have hc3 : (32 : Int) ≤ (c3 : Int) := by omega
  go_wp2_with fail
  refine (decode_any a3 c3 (encL a0_0 a0_1 a0_2 a0_3 a0_4 a0_5) _ hR (encL_bd _ _ _ _ _ _) hc1 hc2).mono ?_
  rintro e w3 ⟨rfl, hb3⟩
  rw [enc_dec HM.out hm]
  have s3 := hb3.size
  have x3 := (blk_below hb3 _ lx).trans x2
  have y3 := (blk_below hb3 _ ly).trans y2
  have t3 := (blk_below hb3 _ lt).trans t2
  have R3 := hR.below hb3 (Nat.le_refl _)
  have L3 : Below w.heap.size w w3 := by repeat' (first | (with_reducible exact Below.refl _ _) | (with_reducible refine Rd.below_step ?_ (by assumption)) | (with_reducible refine Rd.below_alloc ?_ _) | (with_reducible refine Rd.below_drewN ?_ _) | (with_reducible refine Below.drew ?_) | (with_reducible refine Below.setCell ?_ ?_ _) | (with_reducible refine Rd.below_setRow ?_ ?_ _) | go_size | (simp only [World.size_alloc]; omega) | omega)
  clear hb3 x2 y2 t2 hR L2 lx ly lt
  have lx := blk_lt x3
  have ly := blk_lt y3
  have lt := blk_lt t3
  go_upto_region 8 with (fail)
  refine Rd.name_world ?_
  intro W hW
  have x4 : blk W w.heap.size = some (.cells (blkV a0_0 a0_1 a0_2 a0_3 a0_4 a0_5) 24 (0, 0)) := by rw [hW, blk_alloc_old _ _ _ lx]; exact x3
  have y4 : blk W (w.heap.size + 1) = some (.cells #[.int .i64 a1_0, .int .i64 a1_1, .int .i64 a1_2] 47 (0, 0)) := by rw [hW, blk_alloc_old _ _ _ ly]; exact y3
  have t4 : blk W w1.heap.size = some (.cells (cs .u32 tblL) 28 (0, 0)) := by rw [hW, blk_alloc_old _ _ _ lt]; exact t3
  have z4 : blk W w3.heap.size = some (.cells (blkV a0_0 a0_1 a0_2 a0_3 a0_4 a0_5) 24 (0, 0)) := by rw [hW]; exact blk_alloc_at _ _ _ rfl
  have R4 : Reads W 1 a3 32 (u8s (encL a0_0 a0_1 a0_2 a0_3 a0_4 a0_5)) := by rw [hW]; exact R3.below ((Below.refl _ _).alloc (Nat.le_refl _) _) (Nat.le_refl _)
  have L4 : Below w.heap.size w W := by rw [hW]; repeat' (first | (with_reducible exact Below.refl _ _) | (with_reducible refine Rd.below_step ?_ (by assumption)) | (with_reducible refine Rd.below_alloc ?_ _) | (with_reducible refine Rd.below_drewN ?_ _) | (with_reducible refine Below.drew ?_) | (with_reducible refine Below.setCell ?_ ?_ _) | (with_reducible refine Rd.below_setRow ?_ ?_ _) | go_size | (simp only [World.size_alloc]; omega) | omega)
  clear hW x3 y3 t3 R3 L3 lx ly lt
  have lx := blk_lt x4
  have ly := blk_lt y4
  have lt := blk_lt t4
  have lz := blk_lt z4
  obtain ⟨i0, hi, hz0, hz1, hz2⟩ := info_parts info_u8
  have hmade := World.ownsRow_made W (e := 5) (size := 1) (base := W.heap.size) #[] 0 (Nat.le_refl _) (by decide) rfl
  have hBa : Below W.heap.size W (W.alloc (.cells #[] 5)) := (Below.refl _ _).alloc (Nat.le_refl _) _
  have RA := R4.below hBa (Nat.le_refl _)
  go_wp2_with (at_builtin; refine App.wpList_append_reads _ rfl (.tmp 39) (.tmp 40) 25 rfl W.heap.size 5 i0 (.int .u8 0) 1 1 Try.underlying25 hi hz0 hz1 hz2 rfl (by decide) _ _ _ rfl hmade a3 32 c3 (u8s (encL a0_0 a0_1 a0_2 a0_3 a0_4 a0_5)) rfl RA one_ints (by unfold maxLen; omega) (by omega) (by simp) ?_; intro v5 w5 hown5 hgrow5)
  simp only [Nat.zero_add, List.nil_append] at hown5
  have hown := hown5
  obtain ⟨hln, hco⟩ := hown
  have L5 : Below W.heap.size W w5 := hBa.grown hgrow5 (by simp) (fun j hj => (hmade.lt j hj).1)
  obtain ⟨g, cap, cur, rfl, hbg, hg, hnc, hcm, hcs, htk⟩ := hco.resolve_left (fun h => by have := h.2; omega)
  have hg' : blk w5 g = some (.cells cur 5 (0, 0)) := hg
  clear hown5 hgrow5 hmade hBa RA hln hco hg
  go_wp2_with fail
  go_loopw [11, 12] (fun i _ wr => ∃ j : Nat, j ≤ 3 ∧ i = .int .i64 j ∧ Below W.heap.size W wr ∧ ∃ C : Array Value, Hid (blk wr g = some (.cells C 5 (0, 0)) ∧ C.size = cap ∧ C.toList.take 32 = u8s (turned (encL a0_0 a0_1 a0_2 a0_3 a0_4 a0_5) k0 k1 k2 j))) (fun i _ _ => 3 - (intOf i).toNat)
  case atStart => exact ⟨0, by omega, rfl, L5, cur, ⟨hg', by omega, by have h := htk; rw [Nat.mul_one] at h; exact h⟩⟩
  case round =>
    obtain ⟨j, hj, rfl, hb, C, HC⟩ := hrel
    by_cases hlt : j < 3
    · have hc3' : j = 0 ∨ j = 1 ∨ j = 2 := by omega
      obtain ⟨lv, kk, hkk, hlb, hkv, hcell, hnx⟩ : ∃ (lv : Int) (kk : Nat), kk < 256 ∧ (-9223372036854775808 ≤ lv ∧ lv ≤ 9223372036854775807) ∧ lv % 256 = kk ∧ W.cell? ⟨w.heap.size + 1, j, none⟩ = some (.int .i64 lv) ∧ turned (encL a0_0 a0_1 a0_2 a0_3 a0_4 a0_5) k0 k1 k2 (j + 1) = flip (turned (encL a0_0 a0_1 a0_2 a0_3 a0_4 a0_5) k0 k1 k2 j) kk := by
        rcases hc3' with rfl | rfl | rfl
        · exact ⟨a1_0, k0, q0, b0, HK0.out, by rw [blk_cell y4]; rfl, rfl⟩
        · exact ⟨a1_1, k1, q1, b1, HK1.out, by rw [blk_cell y4]; rfl, rfl⟩
        · exact ⟨a1_2, k2, q2, b2, HK2.out, by rw [blk_cell y4]; rfl, rfl⟩
      have hcell' := (hb.cell (p := ⟨w.heap.size + 1, j, none⟩) (by show w.heap.size + 1 < _; omega)).trans hcell
      have hT := turned_len (zs := encL a0_0 a0_1 a0_2 a0_3 a0_4 a0_5) (encL_len _ _ _ _ _ _) k0 k1 k2 j
      have hB := turned_b8 (zs := encL a0_0 a0_1 a0_2 a0_3 a0_4 a0_5) (encL_bd _ _ _ _ _ _) k0 k1 k2 j
      have hset := flip_set hT hB kk hkk
      rw [← hnx] at hset
      generalize turned (encL a0_0 a0_1 a0_2 a0_3 a0_4 a0_5) k0 k1 k2 j = zs at HC hT hB hset
      obtain ⟨c1, c2, c3'⟩ := HC.out
      have hz := getD_b8 hB (kk / 8)
      have hcz : wr.cell? ⟨g, kk / 8, none⟩ = some (.int .u8 (zs.getD (kk / 8) 0)) := by
        rw [blk_cell c1]
        have h9 : (C.toList.take 32)[kk / 8]? = some (.int .u8 (zs.getD (kk / 8) 0)) := by rw [c3']; exact u8s_at _ _ (by omega)
        rw [List.getElem?_take_of_lt (by omega)] at h9
        simpa using h9
      have hfz : wr.frozen? ⟨g, kk / 8, none⟩ = false := blk_frozen c1 _
      have hjj : (j : Int) < 3 := by omega
      have hk8 : ((kk / 8 : Nat) : Int) < 32 := by omega
      have hsl := shl_bit kk
      obtain ⟨q, hq⟩ : ∃ q, q = kk / 8 := ⟨_, rfl⟩
      obtain ⟨r, hr⟩ : ∃ r, r = kk % 8 := ⟨_, rfl⟩
      rw [← hq] at hcz hfz hk8
      rw [← hr] at hsl
      have hq' : (kk : Int) / 8 = (q : Int) := by omega
      have hr' : (kk : Int) % 8 = (r : Int) := by omega
      have hbl := bitV_lt kk
      have lg := blk_lt c1
      rw [← hq] at hz hset
      generalize zs.getD q 0 = z at hcz hz hset
      obtain ⟨z, rfl⟩ := Int.eq_ofNat_of_zero_le hz.1
      have hxr : bits .xor .u8 (z : Int) (bitV kk : Int) = ((z ^^^ bitV kk : Nat) : Int) := u8_xor_nat z (bitV kk) (by omega) hbl
      have HSET := Lib.hid hset
      have HQ := Lib.hid hq
      have hpw : (2 : Int) ^ r % 256 = (bitV kk : Int) := by rw [hr]; exact pow_bit kk
      have HX := Lib.hid hxr
      have HP := Lib.hid hpw
      clear hq hr hset hnx hxr hpw c1 c2 c3' hcell hT hB hlt hc3'
      go_wp2_with fail
      refine (round_any _ _ _ hlb.1 hlb.2 (by omega) (by omega)).mono ?_
      rintro e wr' ⟨rfl, rfl⟩
      rw [hkv]
      go_wp2_with fail
      (refine Reg.quiet_tail 10 (by kernel_rfl) (by kernel_rfl) ?_; simp only [List.take_succ_cons, List.take_zero, List.drop_succ_cons, List.drop_zero]; (repeat go_big_quiet_step (fail)); refine wpQuiet_nil ?_)
      go_wp2
      go_roundw
      case rel =>
        obtain ⟨c1, c2, c3'⟩ := HC.out
        refine ⟨j + 1, by omega, by go_num, by repeat' (first | (with_reducible exact Below.refl _ _) | (with_reducible refine Rd.below_step ?_ (by assumption)) | (with_reducible refine Rd.below_alloc ?_ _) | (with_reducible refine Rd.below_drewN ?_ _) | (with_reducible refine Below.drew ?_) | (with_reducible refine Below.setCell ?_ ?_ _) | (with_reducible refine Rd.below_setRow ?_ ?_ _) | go_size | (simp only [World.size_alloc]; omega) | omega), C.setIfInBounds q (.int .u8 ((z ^^^ bitV kk : Nat) : Int)), ⟨?_, by simpa using c2, ?_⟩⟩
        · rw [HP.out, HX.out]; exact blk_set wr g q _ _ _ c1
        · rw [take_set c3' (by omega), HSET.out, Int.toNat_natCast]
      case measure => simp [intOf]; omega
    · obtain rfl : j = 3 := by omega
      obtain ⟨c1, c2, c3'⟩ := HC.out
      have hT := turned_len (zs := encL a0_0 a0_1 a0_2 a0_3 a0_4 a0_5) (encL_len _ _ _ _ _ _) k0 k1 k2 3
      have hB := turned_b8 (zs := encL a0_0 a0_1 a0_2 a0_3 a0_4 a0_5) (encL_bd _ _ _ _ _ _) k0 k1 k2 3
      have hsyn : syn (turned (encL a0_0 a0_1 a0_2 a0_3 a0_4 a0_5) k0 k1 k2 3) ≠ 0 := flips_syn (encL_len _ _ _ _ _ _) (encL_bd _ _ _ _ _ _) (enc_syn _ _ _ _ _ _) k0 k1 k2 q0 q1 q2
      generalize turned (encL a0_0 a0_1 a0_2 a0_3 a0_4 a0_5) k0 k1 k2 3 = zs at c3' hT hB hsyn
      have hok : decOK zs = false := by
        cases h : decOK zs with
        | false => rfl
        | true => exact absurd (ok_syn h) hsyn
      have hne : zs ≠ encL a0_0 a0_1 a0_2 a0_3 a0_4 a0_5 := fun e => hsyn (by rw [e]; exact enc_syn _ _ _ _ _ _)
      have RC : Reads wr 1 (some ⟨g, 0, none⟩) 32 (u8s zs) := ⟨by simp [hT], .inr ⟨g, 0, rfl, blk_lt c1, fun i hi => by
        have hi' : i < 32 := by simpa [hT] using hi
        rw [Nat.zero_add, blk_cell c1, ← c3', List.getElem?_take_of_lt hi']; simp⟩⟩
      have x6 := (blk_below hb _ lx).trans x4
      have t6 := (blk_below hb _ lt).trans t4
      have z6 := (blk_below hb _ lz).trans z4
      have R6 := R4.below hb (Nat.le_refl _)
      have L6 : Below w.heap.size w wr := L4.trans (hb.mono L4.size)
      clear HC c1 c2 c3' x4 y4 t4 z4 R4 L4 hb lx ly lt lz L5 hg' htk hsyn
      have lx := blk_lt x6
      have lt := blk_lt t6
      have lz := blk_lt z6
      go_wp2_with fail
      refine (decode_any _ cap zs _ RC hB (by omega) hcm).mono ?_
      rintro e w7 ⟨rfl, hb7⟩
      rw [decRes_no hok]
      have s7 := hb7.size
      have x7 := (blk_below hb7 _ lx).trans x6
      have z7 := (blk_below hb7 _ lz).trans z6
      have R7 := R6.below hb7 (Nat.le_refl _)
      have RC7 := RC.below hb7 (Nat.le_refl _)
      have L7 : Below w.heap.size w w7 := by repeat' (first | (with_reducible exact Below.refl _ _) | (with_reducible refine Rd.below_step ?_ (by assumption)) | (with_reducible refine Rd.below_alloc ?_ _) | (with_reducible refine Rd.below_drewN ?_ _) | (with_reducible refine Below.drew ?_) | (with_reducible refine Below.setCell ?_ ?_ _) | (with_reducible refine Rd.below_setRow ?_ ?_ _) | go_size | (simp only [World.size_alloc]; omega) | omega)
      clear x6 t6 z6 R6 RC L6 hb7 lx lt lz
      have lx := blk_lt x7
      have lz := blk_lt z7
      go_upto_region 15 with (fail)
      refine Rd.name_world ?_
      intro V hV
      have x8 : blk V w.heap.size = some (.cells (blkV a0_0 a0_1 a0_2 a0_3 a0_4 a0_5) 24 (0, 0)) := by rw [hV, blk_alloc_old _ _ _ lx]; exact x7
      have z8 : blk V w3.heap.size = some (.cells (blkV a0_0 a0_1 a0_2 a0_3 a0_4 a0_5) 24 (0, 0)) := by rw [hV, blk_alloc_old _ _ _ lz]; exact z7
      have n8 : blk V w7.heap.size = some (.cells zeroB 24 (0, 0)) := by rw [hV]; exact blk_alloc_at _ _ _ rfl
      have R8 : Reads V 1 a3 32 (u8s (encL a0_0 a0_1 a0_2 a0_3 a0_4 a0_5)) := by rw [hV]; exact R7.below ((Below.refl _ _).alloc (Nat.le_refl _) _) (Nat.le_refl _)
      have RC8 : Reads V 1 (some ⟨g, 0, none⟩) 32 (u8s zs) := by rw [hV]; exact RC7.below ((Below.refl _ _).alloc (Nat.le_refl _) _) (Nat.le_refl _)
      have L8 : Below w.heap.size w V := by rw [hV]; repeat' (first | (with_reducible exact Below.refl _ _) | (with_reducible refine Rd.below_step ?_ (by assumption)) | (with_reducible refine Rd.below_alloc ?_ _) | (with_reducible refine Rd.below_drewN ?_ _) | (with_reducible refine Below.drew ?_) | (with_reducible refine Below.setCell ?_ ?_ _) | (with_reducible refine Rd.below_setRow ?_ ?_ _) | go_size | (simp only [World.size_alloc]; omega) | omega)
      clear hV x7 z7 R7 RC7 L7 lx lz
      have v1 := conv_reads (P := Try.prog) (cap := cap) Try.underlying25 Try.underlying5 Try.underlying9 RC8 hB
      have v2 := conv_reads (P := Try.prog) (cap := c3) Try.underlying25 Try.underlying5 Try.underlying9 R8 (encL_bd _ _ _ _ _ _)
      have hstr : ((bytesOf zs).toList == (bytesOf (encL a0_0 a0_1 a0_2 a0_3 a0_4 a0_5)).toList) = false := by
        rw [Bool.eq_false_iff]
        intro h
        rw [beq_iff_eq, ByteArray.toList_eq, ByteArray.toList_eq] at h
        exact hne ((bytesOf_inj hB (encL_bd _ _ _ _ _ _)).1 (ByteArray.ext (Array.toList_inj.mp h)))
      generalize bytesOf zs = sa at v1 hstr
      generalize bytesOf (encL a0_0 a0_1 a0_2 a0_3 a0_4 a0_5) = sb at v2 hstr
      clear hne hok hB hT RC8 R8
      go_wp2_with (go_at_call 6; refine (awake_any _).mono ?_; rintro e Z ⟨rfl, hb⟩)
      go_ret
      exact ⟨rfl, by repeat' (first | (with_reducible exact Below.refl _ _) | (with_reducible refine Rd.below_step ?_ (by assumption)) | (with_reducible refine Rd.below_alloc ?_ _) | (with_reducible refine Rd.below_drewN ?_ _) | (with_reducible refine Below.drew ?_) | (with_reducible refine Below.setCell ?_ ?_ _) | (with_reducible refine Rd.below_setRow ?_ ?_ _) | go_size | (simp only [World.size_alloc]; omega) | omega)⟩
end Go.Proofs.Ytbicgcnlijgjmaa.SupF
