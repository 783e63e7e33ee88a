/-
  What super.Encode does.
-/
import Derived.Test.YtbicgcnlijgjmaaSupA
import Derived.Test.YtbicgcnlijgjmaaPred
namespace Go.Proofs.Ytbicgcnlijgjmaa.SupB
open Go.RowKit Rd Go.Proofs.Ytbicgcnlijgjmaa.Row OctA OctB SupA
open CrcA (tblL tblL_len tblL_at tblF byteN)
open CrcB (onV onF onF_lt)
set_option linter.unusedVariables false
set_option linter.unusedSimpArgs false
set_option maxRecDepth 100000
attribute [local go_sem ↓] CrcA.load_tbl CrcA.store_tbl load_sup store_sup alloc_sup
attribute [local go_sem] CrcA.run_load_tbl CrcA.run_store_tbl run_alloc_sup run_load_sup run_store_sup rowLoad_eq rowStore_eq blk_alloc_at blk_alloc_old blk_drew blk_drewN blk_set_far blk_set_far' blk_grow setRow_alloc_at setRow_alloc_old setRow_drew setRow_drewN all_map one_int blkV_size blkV_all blkV_all6 zeroB_size zeroB_all6 one_bool

def wr1 (r : Bool) : Int := if r then 1 else 0
def encB (g d : Int) (r : Bool) (s l m : Int) : List Int := [87, 65, 73, 78] ++ byts g 4 ++ byts d 1 ++ byts (wr1 r) 1 ++ byts s 2 ++ byts l 2 ++ byts m 4 ++ byts 0 10
def encL (g d : Int) (r : Bool) (s l m : Int) : List Int := encB g d r s l m ++ byts (onV 0 (encB g d r s l m) : Nat) 4
theorem encB_bd (g d : Int) (r : Bool) (s l m : Int) : ∀ z ∈ encB g d r s l m, 0 ≤ z ∧ z ≤ 255 := by
  intro z hz
  simp only [encB, List.mem_append] at hz
  rcases hz with ((((((hz | hz) | hz) | hz) | hz) | hz) | hz) | hz
  · simp at hz; omega
  all_goals exact byts_bd _ _ z hz
theorem encB_len (g d : Int) (r : Bool) (s l m : Int) : (encB g d r s l m).length = 28 := by simp [encB, byts_len]
theorem encL_bd (g d : Int) (r : Bool) (s l m : Int) : ∀ z ∈ encL g d r s l m, 0 ≤ z ∧ z ≤ 255 := by
  intro z hz
  rcases List.mem_append.1 hz with hz | hz
  · exact encB_bd _ _ _ _ _ _ z hz
  · exact byts_bd _ _ z hz
theorem encL_len (g d : Int) (r : Bool) (s l m : Int) : (encL g d r s l m).length = 32 := by simp [encL, encB_len, byts_len]

theorem onV0_lt {zs : List Int} (h : ∀ z ∈ zs, 0 ≤ z ∧ z ≤ 255) : onV 0 zs < 4294967296 := by
  unfold onV
  have := onF_lt zs (4294967295 - 0) h (by omega)
  omega
theorem encode_no (g d : Int) (r : Bool) (s l m : Int) (w : World) (h : mayB g d s l = false) :
    Calls Try.prog 9 #[.agg (cs .u32 tblL), .agg (blkV g d r s l m)] w fun e w' => e = .returned (.tuple #[.slice none 0 0, .int .i64 1]) ∧ Below w.heap.size w w' := by
  have hl := tblL_len
  go_enter Try.func9, Try.ntmps9
  go_wp2_with (go_at_call 20; refine (may_any _ _ _ _ _ _ _).mono ?_; rintro e w1 ⟨rfl, hb1⟩; have s1 := hb1.size; try simp only [h])
  go_ret2
  exact ⟨rfl, by repeat' (first | (with_reducible exact Below.refl _ _) | (with_reducible refine Rd.below_step ?_ (by assumption)) | (with_reducible refine Rd.below_alloc ?_ _) | (with_reducible refine Rd.below_drewN ?_ _) | (with_reducible refine Below.drew ?_) | (with_reducible refine Below.setCell ?_ ?_ _) | (with_reducible refine Rd.below_setRow ?_ ?_ _) | go_size | (simp only [World.size_alloc]; omega) | omega)⟩
set_option maxHeartbeats 2000000 in
theorem encode_yes (g d : Int) (r : Bool) (s l m : Int) (w : World) (h : mayB g d s l = true) (hg : -9223372036854775808 ≤ g ∧ g ≤ 9223372036854775807) (hd : -9223372036854775808 ≤ d ∧ d ≤ 9223372036854775807) (hs : -9223372036854775808 ≤ s ∧ s ≤ 9223372036854775807) (hll : -9223372036854775808 ≤ l ∧ l ≤ 9223372036854775807) (hm : 0 ≤ m ∧ m ≤ 4294967295) :
    Calls Try.prog 9 #[.agg (cs .u32 tblL), .agg (blkV g d r s l m)] w fun e w' => ∃ a cap, e = .returned (.tuple #[.slice a 32 cap, .int .i64 0]) ∧ 32 ≤ cap ∧ cap ≤ maxLen ∧ Reads w' 1 a 32 (u8s (encL g d r s l m)) ∧ Below w.heap.size w w' := by
  have hl := tblL_len
  have hrr : wr1 r = if r = true then 1 else 0 := rfl
  cases r
  · go_enter Try.func9, Try.ntmps9
    go_wp2_with fail
    refine (may_any _ _ _ _ _ _ _).mono ?_
    rintro e w1 ⟨rfl, hb1⟩
    have s1 := hb1.size
    simp only [h]
    simp only [World.size_alloc] at s1
    have T0 := (blk_below hb1 w.heap.size (by simp <;> omega)).trans (blk2_0 w _ _)
    have K0 := (blk_below hb1 (w.heap.size + 1) (by simp)).trans (blk2_1 w _ _)
    have L1 : Below w.heap.size w w1 := by repeat' (first | (with_reducible exact Below.refl _ _) | (with_reducible refine Rd.below_step ?_ (by assumption)) | (with_reducible refine Rd.below_alloc ?_ _) | (with_reducible refine Rd.below_drewN ?_ _) | (with_reducible refine Below.drew ?_) | (with_reducible refine Below.setCell ?_ ?_ _) | (with_reducible refine Rd.below_setRow ?_ ?_ _) | go_size | (simp only [World.size_alloc]; omega) | omega)
    clear hb1
    have k0 := blk_cell K0 0
    have k1 := blk_cell K0 1
    have k2 := blk_cell K0 2
    have k3 := blk_cell K0 3
    have k4 := blk_cell K0 4
    have k5 := blk_cell K0 5
    unfold blkV at k0 k1 k2 k3 k4 k5
    simp at k0 k1 k2 k3 k4 k5
    have Y0 : blk (w1.alloc (.cells #[.int .u8 87, .int .u8 65, .int .u8 73, .int .u8 78] 5)) w1.heap.size = some (.cells #[.int .u8 87, .int .u8 65, .int .u8 73, .int .u8 78] 5 (0, 0)) := blk_alloc_at _ _ _ rfl
    obtain ⟨Y, hY, hext⟩ := Pred.run_conv_own (P := Try.prog) (t := 25) (n := 4) (c := 4) Try.underlying25 Try.underlying5 Y0
    obtain ⟨fy, h3⟩ := hext.2 _ _ _ _ Y0
    have BY : Below w1.heap.size w1 Y := ((Below.refl w1.heap.size w1).alloc (Nat.le_refl _) _).trans hext.1
    have O0 : Own Y w1.heap.size 5 1 (.slice (some ⟨w1.heap.size, 0, none⟩) 4 4) 4 (u8s [87, 65, 73, 78]) := .inr ⟨_, 0, rfl, blk_lt h3, by decide, rfl, fun j u hu => by rw [Nat.zero_add, blk_cell h3]; simpa using hu⟩
    have sY := BY.size
    have T1 := (blk_below BY w.heap.size (by omega)).trans T0
    have K1 := (blk_below BY (w.heap.size + 1) (by omega)).trans K0
    have L2 : Below w.heap.size w Y := L1.trans (BY.mono (by omega))
    have L0 : Below w1.heap.size Y Y := Below.refl _ _
    clear BY
    have kc0 := blk_cell K1 0
    unfold blkV at kc0
    simp only [List.getElem?_toArray, List.getElem?_cons_zero, List.getElem?_cons_succ] at kc0
    go_wp2_with fail
    clear hY hext h3 Y0 T0 K0 k0 k1 k2 k3 k4 k5
    refine (put_any w1.heap.size _ (4) ([87, 65, 73, 78]) g 4 Y O0 (by omega) (by omega) hg (by omega)).mono ?_
    rintro e W1 ⟨v1, rfl, O1, hb1⟩
    have sW1 := hb1.size
    have T2 := (blk_below hb1 w.heap.size (by omega)).trans T1
    have K2 := (blk_below hb1 (w.heap.size + 1) (by omega)).trans K1
    have M1 : Below w1.heap.size Y W1 := L0.trans hb1
    clear hb1 T1 K1 O0 L0 kc0
    have kc1 := blk_cell K2 1
    unfold blkV at kc1
    simp only [List.getElem?_toArray, List.getElem?_cons_zero, List.getElem?_cons_succ] at kc1
    go_wp2_with fail
    refine (put_any w1.heap.size _ (4 + 4) ([87, 65, 73, 78] ++ byts g 4) d 1 W1 O1 (by omega) (by omega) hd (by omega)).mono ?_
    rintro e W2 ⟨v2, rfl, O2, hb2⟩
    have sW2 := hb2.size
    have T3 := (blk_below hb2 w.heap.size (by omega)).trans T2
    have K3 := (blk_below hb2 (w.heap.size + 1) (by omega)).trans K2
    have M2 : Below w1.heap.size Y W2 := M1.trans hb2
    clear hb2 T2 K2 O1 M1 kc1
    go_wp2_with fail
    refine (put_any w1.heap.size _ (4 + 4 + 1) ([87, 65, 73, 78] ++ byts g 4 ++ byts d 1) (wr1 false) 1 W2 O2 (by omega) (by omega) (by simp [wr1]) (by omega)).mono ?_
    rintro e W3 ⟨v3, rfl, O3, hb3⟩
    have sW3 := hb3.size
    have T4 := (blk_below hb3 w.heap.size (by omega)).trans T3
    have K4 := (blk_below hb3 (w.heap.size + 1) (by omega)).trans K3
    have M3 : Below w1.heap.size Y W3 := M2.trans hb3
    clear hb3 T3 K3 O2 M2 
    have kc3 := blk_cell K4 3
    unfold blkV at kc3
    simp only [List.getElem?_toArray, List.getElem?_cons_zero, List.getElem?_cons_succ] at kc3
    go_wp2_with fail
    refine (put_any w1.heap.size _ (4 + 4 + 1 + 1) ([87, 65, 73, 78] ++ byts g 4 ++ byts d 1 ++ byts (wr1 false) 1) s 2 W3 O3 (by omega) (by omega) hs (by omega)).mono ?_
    rintro e W4 ⟨v4, rfl, O4, hb4⟩
    have sW4 := hb4.size
    have T5 := (blk_below hb4 w.heap.size (by omega)).trans T4
    have K5 := (blk_below hb4 (w.heap.size + 1) (by omega)).trans K4
    have M4 : Below w1.heap.size Y W4 := M3.trans hb4
    clear hb4 T4 K4 O3 M3 kc3
    have kc4 := blk_cell K5 4
    unfold blkV at kc4
    simp only [List.getElem?_toArray, List.getElem?_cons_zero, List.getElem?_cons_succ] at kc4
    go_wp2_with fail
    refine (put_any w1.heap.size _ (4 + 4 + 1 + 1 + 2) ([87, 65, 73, 78] ++ byts g 4 ++ byts d 1 ++ byts (wr1 false) 1 ++ byts s 2) l 2 W4 O4 (by omega) (by omega) hll (by omega)).mono ?_
    rintro e W5 ⟨v5, rfl, O5, hb5⟩
    have sW5 := hb5.size
    have T6 := (blk_below hb5 w.heap.size (by omega)).trans T5
    have K6 := (blk_below hb5 (w.heap.size + 1) (by omega)).trans K5
    have M5 : Below w1.heap.size Y W5 := M4.trans hb5
    clear hb5 T5 K5 O4 M4 kc4
    have kc5 := blk_cell K6 5
    unfold blkV at kc5
    simp only [List.getElem?_toArray, List.getElem?_cons_zero, List.getElem?_cons_succ] at kc5
    go_wp2_with fail
    refine (put_any w1.heap.size _ (4 + 4 + 1 + 1 + 2 + 2) ([87, 65, 73, 78] ++ byts g 4 ++ byts d 1 ++ byts (wr1 false) 1 ++ byts s 2 ++ byts l 2) m 4 W5 O5 (by omega) (by omega) (by omega) (by omega)).mono ?_
    rintro e W6 ⟨v6, rfl, O6, hb6⟩
    have sW6 := hb6.size
    have T7 := (blk_below hb6 w.heap.size (by omega)).trans T6
    have K7 := (blk_below hb6 (w.heap.size + 1) (by omega)).trans K6
    have M6 : Below w1.heap.size Y W6 := M5.trans hb6
    clear hb6 T6 K6 O5 M5 kc5
    go_wp2_with fail
    refine (put_any w1.heap.size _ (4 + 4 + 1 + 1 + 2 + 2 + 4) ([87, 65, 73, 78] ++ byts g 4 ++ byts d 1 ++ byts (wr1 false) 1 ++ byts s 2 ++ byts l 2 ++ byts m 4) 0 10 W6 O6 (by omega) (by omega) (by omega) (by omega)).mono ?_
    rintro e W7 ⟨v7, rfl, O7, hb7⟩
    have sW7 := hb7.size
    have T8 := (blk_below hb7 w.heap.size (by omega)).trans T7
    have K8 := (blk_below hb7 (w.heap.size + 1) (by omega)).trans K7
    have M7 : Below w1.heap.size Y W7 := M6.trans hb7
    clear hb7 T7 K7 O6 M6 
    have eB : [87, 65, 73, 78] ++ byts g 4 ++ byts d 1 ++ byts (wr1 false) 1 ++ byts s 2 ++ byts l 2 ++ byts m 4 ++ byts 0 10 = encB g d false s l m := rfl
    rw [eB] at O7
    obtain ⟨a, cap, rfl, hc1, hc2, hR⟩ := O7.val
    have hlt := onV0_lt (encB_bd g d false s l m)
    have lT := tblL_len
    go_wp2_with fail
    refine (CrcD.of_any a _ cap _ W7 hR (encB_bd _ _ _ _ _ _) (by omega)).mono ?_
    rintro e X ⟨rfl, hbX⟩
    have sX := hbX.size
    have OX := O7.below hbX
    have MX : Below w1.heap.size Y X := M7.trans (hbX.mono (by omega))
    clear hbX O7 M7
    go_wp2_with fail
    refine (put_any w1.heap.size _ (4 + 4 + 1 + 1 + 2 + 2 + 4 + 10) _ _ 4 X OX (by omega) (by omega) (by omega) (by omega)).mono ?_
    rintro e Z ⟨vz, rfl, OZ, hbZ⟩
    obtain ⟨az, capz, rfl, hz1, hz2, hRZ⟩ := OZ.val
    have MZ : Below w1.heap.size Y Z := MX.trans hbZ
    go_wp2_with fail
    go_ret2
    exact ⟨az, capz, rfl, hz1, hz2, hRZ, L2.trans (MZ.mono (by omega))⟩
  · go_enter Try.func9, Try.ntmps9
    go_wp2_with fail
    refine (may_any _ _ _ _ _ _ _).mono ?_
    rintro e w1 ⟨rfl, hb1⟩
    have s1 := hb1.size
    simp only [h]
    simp only [World.size_alloc] at s1
    have T0 := (blk_below hb1 w.heap.size (by simp <;> omega)).trans (blk2_0 w _ _)
    have K0 := (blk_below hb1 (w.heap.size + 1) (by simp)).trans (blk2_1 w _ _)
    have L1 : Below w.heap.size w w1 := by repeat' (first | (with_reducible exact Below.refl _ _) | (with_reducible refine Rd.below_step ?_ (by assumption)) | (with_reducible refine Rd.below_alloc ?_ _) | (with_reducible refine Rd.below_drewN ?_ _) | (with_reducible refine Below.drew ?_) | (with_reducible refine Below.setCell ?_ ?_ _) | (with_reducible refine Rd.below_setRow ?_ ?_ _) | go_size | (simp only [World.size_alloc]; omega) | omega)
    clear hb1
    have k0 := blk_cell K0 0
    have k1 := blk_cell K0 1
    have k2 := blk_cell K0 2
    have k3 := blk_cell K0 3
    have k4 := blk_cell K0 4
    have k5 := blk_cell K0 5
    unfold blkV at k0 k1 k2 k3 k4 k5
    simp at k0 k1 k2 k3 k4 k5
    have Y0 : blk (w1.alloc (.cells #[.int .u8 87, .int .u8 65, .int .u8 73, .int .u8 78] 5)) w1.heap.size = some (.cells #[.int .u8 87, .int .u8 65, .int .u8 73, .int .u8 78] 5 (0, 0)) := blk_alloc_at _ _ _ rfl
    obtain ⟨Y, hY, hext⟩ := Pred.run_conv_own (P := Try.prog) (t := 25) (n := 4) (c := 4) Try.underlying25 Try.underlying5 Y0
    obtain ⟨fy, h3⟩ := hext.2 _ _ _ _ Y0
    have BY : Below w1.heap.size w1 Y := ((Below.refl w1.heap.size w1).alloc (Nat.le_refl _) _).trans hext.1
    have O0 : Own Y w1.heap.size 5 1 (.slice (some ⟨w1.heap.size, 0, none⟩) 4 4) 4 (u8s [87, 65, 73, 78]) := .inr ⟨_, 0, rfl, blk_lt h3, by decide, rfl, fun j u hu => by rw [Nat.zero_add, blk_cell h3]; simpa using hu⟩
    have sY := BY.size
    have T1 := (blk_below BY w.heap.size (by omega)).trans T0
    have K1 := (blk_below BY (w.heap.size + 1) (by omega)).trans K0
    have L2 : Below w.heap.size w Y := L1.trans (BY.mono (by omega))
    have L0 : Below w1.heap.size Y Y := Below.refl _ _
    clear BY
    have kc0 := blk_cell K1 0
    unfold blkV at kc0
    simp only [List.getElem?_toArray, List.getElem?_cons_zero, List.getElem?_cons_succ] at kc0
    go_wp2_with fail
    clear hY hext h3 Y0 T0 K0 k0 k1 k2 k3 k4 k5
    refine (put_any w1.heap.size _ (4) ([87, 65, 73, 78]) g 4 Y O0 (by omega) (by omega) hg (by omega)).mono ?_
    rintro e W1 ⟨v1, rfl, O1, hb1⟩
    have sW1 := hb1.size
    have T2 := (blk_below hb1 w.heap.size (by omega)).trans T1
    have K2 := (blk_below hb1 (w.heap.size + 1) (by omega)).trans K1
    have M1 : Below w1.heap.size Y W1 := L0.trans hb1
    clear hb1 T1 K1 O0 L0 kc0
    have kc1 := blk_cell K2 1
    unfold blkV at kc1
    simp only [List.getElem?_toArray, List.getElem?_cons_zero, List.getElem?_cons_succ] at kc1
    go_wp2_with fail
    refine (put_any w1.heap.size _ (4 + 4) ([87, 65, 73, 78] ++ byts g 4) d 1 W1 O1 (by omega) (by omega) hd (by omega)).mono ?_
    rintro e W2 ⟨v2, rfl, O2, hb2⟩
    have sW2 := hb2.size
    have T3 := (blk_below hb2 w.heap.size (by omega)).trans T2
    have K3 := (blk_below hb2 (w.heap.size + 1) (by omega)).trans K2
    have M2 : Below w1.heap.size Y W2 := M1.trans hb2
    clear hb2 T2 K2 O1 M1 kc1
    go_wp2_with fail
    refine (put_any w1.heap.size _ (4 + 4 + 1) ([87, 65, 73, 78] ++ byts g 4 ++ byts d 1) (wr1 true) 1 W2 O2 (by omega) (by omega) (by simp [wr1]) (by omega)).mono ?_
    rintro e W3 ⟨v3, rfl, O3, hb3⟩
    have sW3 := hb3.size
    have T4 := (blk_below hb3 w.heap.size (by omega)).trans T3
    have K4 := (blk_below hb3 (w.heap.size + 1) (by omega)).trans K3
    have M3 : Below w1.heap.size Y W3 := M2.trans hb3
    clear hb3 T3 K3 O2 M2 
    have kc3 := blk_cell K4 3
    unfold blkV at kc3
    simp only [List.getElem?_toArray, List.getElem?_cons_zero, List.getElem?_cons_succ] at kc3
    go_wp2_with fail
    refine (put_any w1.heap.size _ (4 + 4 + 1 + 1) ([87, 65, 73, 78] ++ byts g 4 ++ byts d 1 ++ byts (wr1 true) 1) s 2 W3 O3 (by omega) (by omega) hs (by omega)).mono ?_
    rintro e W4 ⟨v4, rfl, O4, hb4⟩
    have sW4 := hb4.size
    have T5 := (blk_below hb4 w.heap.size (by omega)).trans T4
    have K5 := (blk_below hb4 (w.heap.size + 1) (by omega)).trans K4
    have M4 : Below w1.heap.size Y W4 := M3.trans hb4
    clear hb4 T4 K4 O3 M3 kc3
    have kc4 := blk_cell K5 4
    unfold blkV at kc4
    simp only [List.getElem?_toArray, List.getElem?_cons_zero, List.getElem?_cons_succ] at kc4
    go_wp2_with fail
    refine (put_any w1.heap.size _ (4 + 4 + 1 + 1 + 2) ([87, 65, 73, 78] ++ byts g 4 ++ byts d 1 ++ byts (wr1 true) 1 ++ byts s 2) l 2 W4 O4 (by omega) (by omega) hll (by omega)).mono ?_
    rintro e W5 ⟨v5, rfl, O5, hb5⟩
    have sW5 := hb5.size
    have T6 := (blk_below hb5 w.heap.size (by omega)).trans T5
    have K6 := (blk_below hb5 (w.heap.size + 1) (by omega)).trans K5
    have M5 : Below w1.heap.size Y W5 := M4.trans hb5
    clear hb5 T5 K5 O4 M4 kc4
    have kc5 := blk_cell K6 5
    unfold blkV at kc5
    simp only [List.getElem?_toArray, List.getElem?_cons_zero, List.getElem?_cons_succ] at kc5
    go_wp2_with fail
    refine (put_any w1.heap.size _ (4 + 4 + 1 + 1 + 2 + 2) ([87, 65, 73, 78] ++ byts g 4 ++ byts d 1 ++ byts (wr1 true) 1 ++ byts s 2 ++ byts l 2) m 4 W5 O5 (by omega) (by omega) (by omega) (by omega)).mono ?_
    rintro e W6 ⟨v6, rfl, O6, hb6⟩
    have sW6 := hb6.size
    have T7 := (blk_below hb6 w.heap.size (by omega)).trans T6
    have K7 := (blk_below hb6 (w.heap.size + 1) (by omega)).trans K6
    have M6 : Below w1.heap.size Y W6 := M5.trans hb6
    clear hb6 T6 K6 O5 M5 kc5
    go_wp2_with fail
    refine (put_any w1.heap.size _ (4 + 4 + 1 + 1 + 2 + 2 + 4) ([87, 65, 73, 78] ++ byts g 4 ++ byts d 1 ++ byts (wr1 true) 1 ++ byts s 2 ++ byts l 2 ++ byts m 4) 0 10 W6 O6 (by omega) (by omega) (by omega) (by omega)).mono ?_
    rintro e W7 ⟨v7, rfl, O7, hb7⟩
    have sW7 := hb7.size
    have T8 := (blk_below hb7 w.heap.size (by omega)).trans T7
    have K8 := (blk_below hb7 (w.heap.size + 1) (by omega)).trans K7
    have M7 : Below w1.heap.size Y W7 := M6.trans hb7
    clear hb7 T7 K7 O6 M6 
    have eB : [87, 65, 73, 78] ++ byts g 4 ++ byts d 1 ++ byts (wr1 true) 1 ++ byts s 2 ++ byts l 2 ++ byts m 4 ++ byts 0 10 = encB g d true s l m := rfl
    rw [eB] at O7
    obtain ⟨a, cap, rfl, hc1, hc2, hR⟩ := O7.val
    have hlt := onV0_lt (encB_bd g d true s l m)
    have lT := tblL_len
    go_wp2_with fail
    refine (CrcD.of_any a _ cap _ W7 hR (encB_bd _ _ _ _ _ _) (by omega)).mono ?_
    rintro e X ⟨rfl, hbX⟩
    have sX := hbX.size
    have OX := O7.below hbX
    have MX : Below w1.heap.size Y X := M7.trans (hbX.mono (by omega))
    clear hbX O7 M7
    go_wp2_with fail
    refine (put_any w1.heap.size _ (4 + 4 + 1 + 1 + 2 + 2 + 4 + 10) _ _ 4 X OX (by omega) (by omega) (by omega) (by omega)).mono ?_
    rintro e Z ⟨vz, rfl, OZ, hbZ⟩
    obtain ⟨az, capz, rfl, hz1, hz2, hRZ⟩ := OZ.val
    have MZ : Below w1.heap.size Y Z := MX.trans hbZ
    go_wp2_with fail
    go_ret2
    exact ⟨az, capz, rfl, hz1, hz2, hRZ, L2.trans (MZ.mono (by omega))⟩
end Go.Proofs.Ytbicgcnlijgjmaa.SupB
