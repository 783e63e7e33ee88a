/-
  The law's awake.
-/
import Derived.Test.YtdjiblgnealmkaaMpS
import Derived.Test.YtdjiblgnealmkaaMpT
namespace Go.Proofs.Ytdjiblgnealmkaa.MpU
open Go.RowKit Rd Go.Proofs.Ytdjiblgnealmkaa.Row Mid DkM HueA MpM MpA MpB MpC MpD MpE MpF MpG
open MpP (at17 round17)
open MpQ MpS MpT
open Ints (i64s In64)
set_option linter.unusedVariables false
set_option linter.unusedSimpArgs false
set_option maxRecDepth 10000
/-- a texel of a level -/
theorem atP_in {ps : List Px} {D : Nat} {wr : Bool} {l : Nat} {x y : Int} (hl : l ≤ D) : atP ps D wr l x y = at_ (lev ps D l) ((sd (D - l) * along wr (sd (D - l)) y + along wr (sd (D - l)) x).toNat) := by
  unfold atP
  rw [if_pos (by omega), Int.toNat_natCast]
theorem atP_nat {ps : List Px} {D : Nat} {wr : Bool} {l x y : Nat} (hl : l ≤ D) (hx : x < sd (D - l)) (hy : y < sd (D - l)) : atP ps D wr l x y = at_ (lev ps D l) (sd (D - l) * y + x) := by
  rw [atP_in hl, along_in wr (by omega) (by omega), along_in wr (by omega) (by omega)]
  rw [show ((sd (D - l) : Int) * y + x) = ((sd (D - l) * y + x : Nat) : Int) by push_cast; rfl, Int.toNat_natCast]
theorem atP_mean {ps : List Px} {D : Nat} {wr : Bool} {l x y : Nat} (hl : l < D) (hx : x < sd (D - (l + 1))) (hy : y < sd (D - (l + 1))) : atP ps D wr ((l + 1 : Nat) : Int) x y =
    mean (atP ps D wr l ((2 * x : Nat) : Int) ((2 * y : Nat) : Int)) (atP ps D wr l ((2 * x + 1 : Nat) : Int) ((2 * y : Nat) : Int)) (atP ps D wr l ((2 * x : Nat) : Int) ((2 * y + 1 : Nat) : Int)) (atP ps D wr l ((2 * x + 1 : Nat) : Int) ((2 * y + 1 : Nat) : Int)) := by
  have e : sd (D - l) = 2 * sd (D - (l + 1)) := by rw [← sd_succ]; congr 1; omega
  rw [atP_nat (by omega) hx hy, lev_xy hl hx hy, atP_nat (by omega) (by omega) (by omega), atP_nat (by omega) (by omega) (by omega), atP_nat (by omega) (by omega) (by omega), atP_nat (by omega) (by omega) (by omega)]
theorem one_int2 (w : World) (z : Int) (T : TypeId) : Reads (w.alloc (.cells #[.int .i64 z] T)) 1 (some ⟨w.heap.size, 0, none⟩) 1 (i64s [z]) := reads_new w _ _ 1 1 rfl
theorem one_px2 (w : World) (p : Px) (T : TypeId) : Reads (w.alloc (.cells p.c T)) 4 (some ⟨w.heap.size, 0, none⟩) 1 (cp [p]) := by
  rw [cp_one]; exact reads_new w _ _ 4 1 rfl
def nine : Px := ⟨9, 9, 9, 9⟩
theorem nine_B : nine.B := by unfold Px.B nine B8; simp
theorem put_nine (ts : List Px) (wr : Bool) (h : ts.length = sd 1 * sd 1) : atP (put ts (sd 1) 1 1 1 [nine] 1) 1 wr 0 1 1 = nine := by
  have := atP_nat (ps := put ts (sd 1) 1 1 1 [nine] 1) (D := 1) (wr := wr) (l := 0) (x := 1) (y := 1) (by omega) (by decide) (by decide)
  refine Eq.trans this ?_
  show at_ (put ts (sd 1) 1 1 1 [nine] 1) _ = _
  rw [put_at _ _ (by decide), if_pos (by decide)]
  rfl
theorem bd_keep {X Y : World} {t : Nat} {o : Obj} (h : blk X t = some o) (hb : Below X.heap.size X Y) : blk Y t = some o := (blk_below hb _ (blk_lt h)).trans h
attribute [local go_sem ↓] load_tex store_tex load_col store_col alloc_col
attribute [local go_sem] eq_px px_self Px.c_size Px.c_all c_all4 fold_px run_load_tex run_store_tex run_alloc_col run_store_col rowStore_eq rowLoad_eq one_int one_bool one_sl blk_alloc_at blk_alloc_old blk_drew blk_drewN blk_grow setRow_alloc_at setRow_alloc_old setRow_drew setRow_drewN
set_option maxHeartbeats 8000000 in
theorem awake_any (w : World) : Calls Try.prog 10 #[] w fun e w' => e = .returned (.bool true) ∧ Below w.heap.size w w' := by
  go_enter Try.func10, Try.ntmps10
  go_wp2_with fail
  refine (Paint_any 1 true _ 1 1 [2] _ (by omega) (by omega) (one_int2 w 2 _) (by intro z hz; simp at hz; subst hz; exact ⟨by decide, by decide⟩) (by omega)).mono ?_
  rintro e w1 ⟨⟨D, u, ts, hD, hD3, rfl, hts, hRB, hou⟩, hb1⟩
  have L1 : Below w.heap.size w w1 := by repeat' (first | (with_reducible exact Below.refl _ _) | (with_reducible refine Rd.below_step ?_ (by assumption)) | (with_reducible refine Rd.below_alloc ?_ _) | (with_reducible refine Rd.below_drewN ?_ _) | (with_reducible refine Below.drew ?_) | (with_reducible refine Below.setCell ?_ ?_ _) | (with_reducible refine Rd.below_setRow ?_ ?_ _) | go_size | (simp only [World.size_alloc]; omega) | omega)
  have s1 := L1.size
  have hD1 : D = 1 := by omega
  obtain ⟨q, hq⟩ : ∃ q, q = sd D * sd D := ⟨_, rfl⟩
  have hq1 : q = 64 := by rw [hq, hD1]; rfl
  rw [← hq] at hou hts
  obtain ⟨g, cap, rfl, hg0, hg1, hgc, hgm, -⟩ := owns_pos hou (by omega)
  have HD := Lib.hid hD1
  have HQ := Lib.hid hq
  have HOU := Lib.hid hou
  have HTS := Lib.hid hts
  have HQ1 := Lib.hid hq1
  clear hD hD1 hq hq1 hb1 hou hts
  have hTB : blk (w1.alloc (.cells #[.int .i64 D, .bool true, .slice (some ⟨g, 0, none⟩) q cap] 24)) w1.heap.size = some (.cells #[.int .i64 D, .bool true, .slice (some ⟨g, 0, none⟩) q cap] 24 (0, 0)) := blk_alloc_at _ _ _ rfl
  have hB1 := (Below.refl w1.heap.size w1).alloc (Nat.le_refl _) (.cells #[.int .i64 D, .bool true, .slice (some ⟨g, 0, none⟩) q cap] 24)
  have hRd := (Reads.of_owns HOU.out).below hB1 (Nat.le_refl _)
  go_wp2_with fail
  refine (Build_any true ⟨g, 0, none⟩ q cap _ hRd hD3 HQ.out hRB).mono ?_
  rintro e w2 ⟨⟨b, rfl, hb2lo, hP⟩, hb2⟩
  have L2 : Below w.heap.size w w2 := by repeat' (first | (with_reducible exact Below.refl _ _) | (with_reducible refine Rd.below_step ?_ (by assumption)) | (with_reducible refine Rd.below_alloc ?_ _) | (with_reducible refine Rd.below_drewN ?_ _) | (with_reducible refine Below.drew ?_) | (with_reducible refine Below.setCell ?_ ?_ _) | (with_reducible refine Rd.below_setRow ?_ ?_ _) | go_size | (simp only [World.size_alloc]; omega) | omega)
  have hT2 := bd_keep hTB hb2
  have hR2 := hRd.below hb2 (Nat.le_refl _)
  clear hTB hB1 hRd L1 s1 hb2 hb2lo
  go_wp2_with fail
  refine (Build_no 0 false none 0 0 w2 (by decide)).mono ?_
  rintro e w3 ⟨rfl, hb3⟩
  have L3 : Below w.heap.size w w3 := by repeat' (first | (with_reducible exact Below.refl _ _) | (with_reducible refine Rd.below_step ?_ (by assumption)) | (with_reducible refine Rd.below_alloc ?_ _) | (with_reducible refine Rd.below_drewN ?_ _) | (with_reducible refine Below.drew ?_) | (with_reducible refine Below.setCell ?_ ?_ _) | (with_reducible refine Rd.below_setRow ?_ ?_ _) | go_size | (simp only [World.size_alloc]; omega) | omega)
  have hT3 := bd_keep hT2 hb3
  have hR3 := hR2.below hb3 (Nat.le_refl _)
  have hP3 := hP.below hb3
  clear hT2 hR2 hP hb3 L2
  have hsd : sd D = 8 := by rw [HD.out]; rfl
  have HSD := Lib.hid hsd
  clear hsd
  go_wp2_with fail
  have hB3 := (Below.refl w3.heap.size w3).alloc (Nat.le_refl _) (.cells nine.c 39)
  refine (With_any 1 1 1 1 _ 0 1 1 [nine] _ (hP3.below hB3) (by rw [HSD.out]; omega) (by rw [HSD.out]; omega) (by omega) (by omega) rfl (by omega) (one_px2 w3 nine _) (by intro p hp; simp at hp; subst hp; exact nine_B)).mono ?_
  rintro e w4 ⟨⟨b2, rfl, hb4lo, hW4⟩, hb4⟩
  have hb34 : Below w3.heap.size w3 w4 := hB3.trans (hb4.mono (by simp))
  have L4 : Below w.heap.size w w4 := L3.trans (hb34.mono L3.size)
  have hT4 := bd_keep hT3 hb34
  have hR4 := hR3.below hb34 (Nat.le_refl _)
  have hP4 := hP3.below hb34
  clear hT3 hR3 hP3 hb34 hb4 hb4lo L3 hB3
  go_wp2_with fail
  have hB4 := (Below.refl w4.heap.size w4).alloc (Nat.le_refl _) (.cells Px.z.c 39)
  refine (With_no 8 0 1 1 _ 1 1 _ (hP4.below hB4) (.inl (by rw [HSD.out]; decide)) (by omega)).mono ?_
  rintro e w5 ⟨rfl, hb5⟩
  have hb45 : Below w4.heap.size w4 w5 := hB4.trans (hb5.mono (by simp))
  have L5 : Below w.heap.size w w5 := L4.trans (hb45.mono L4.size)
  have hT5 := bd_keep hT4 hb45
  have hR5 := hR4.below hb45 (Nat.le_refl _)
  have hP5 := hP4.below hb45
  have hW5 := hW4.below hb45
  clear hT4 hR4 hP4 hW4 hb45 hb5 L4 hB4
  obtain ⟨p7, e7⟩ : ∃ p, atP ts D true 0 7 0 = p := ⟨_, rfl⟩
  obtain ⟨a0, e0⟩ : ∃ p, atP ts D true 0 0 0 = p := ⟨_, rfl⟩
  obtain ⟨a1, e1⟩ : ∃ p, atP ts D true 0 1 0 = p := ⟨_, rfl⟩
  obtain ⟨a2, e2⟩ : ∃ p, atP ts D true 0 0 1 = p := ⟨_, rfl⟩
  obtain ⟨a3, e3⟩ : ∃ p, atP ts D true 0 1 1 = p := ⟨_, rfl⟩
  have E1 : atP ts D true 0 (-1) 8 = p7 := by
    rw [← e7, HD.out]
    exact Eq.trans (atP_in (l := 0) (by omega)) (Eq.trans (congrArg _ (by decide)) (atP_in (l := 0) (by omega)).symm)
  have E2 : atP ts D true 1 0 0 = mean a0 a1 a2 a3 := by
    rw [← e0, ← e1, ← e2, ← e3, HD.out]
    exact atP_mean (D := 1) (l := 0) (x := 0) (y := 0) (by omega) (by decide) (by decide)
  have E3 : atP (put ts (sd D) 1 1 1 [nine] 1) D true 0 1 1 = nine := by
    have h := put_nine ts true (by rw [HTS.out, HQ.out, HD.out])
    rw [HD.out]; exact h
  have b0 : a0.B := by rw [← e0]; exact atP_B hRB _ _ _ _ _
  have b1 : a1.B := by rw [← e1]; exact atP_B hRB _ _ _ _ _
  have b2' : a2.B := by rw [← e2]; exact atP_B hRB _ _ _ _ _
  have b3 : a3.B := by rw [← e3]; exact atP_B hRB _ _ _ _ _
  have z0 : I64 0 := ⟨by decide, by decide⟩
  have z1 : I64 1 := ⟨by decide, by decide⟩
  have CA := Lib.hid fun X (hX : Pyr X b D true ts) => (E1 ▸ At_any 0 (-1) 8 X hX ⟨by decide, by decide⟩ ⟨by decide, by decide⟩ : Calls Try.prog _ _ X fun e w' => e = .returned p7.v ∧ Below X.heap.size X w')
  have CB := Lib.hid fun X (hX : Pyr X b D true ts) => (e7 ▸ At_any 0 7 0 X hX ⟨by decide, by decide⟩ z0 : Calls Try.prog _ _ X fun e w' => e = .returned p7.v ∧ Below X.heap.size X w')
  have CC := Lib.hid fun X (hX : Pyr X b D true ts) => (E2 ▸ At_any 1 0 0 X hX z0 z0 : Calls Try.prog _ _ X fun e w' => e = .returned (mean a0 a1 a2 a3).v ∧ Below X.heap.size X w')
  have CD0 := Lib.hid fun X (hX : Pyr X b D true ts) => (e0 ▸ At_any 0 0 0 X hX z0 z0 : Calls Try.prog _ _ X fun e w' => e = .returned a0.v ∧ Below X.heap.size X w')
  have CD1 := Lib.hid fun X (hX : Pyr X b D true ts) => (e1 ▸ At_any 0 1 0 X hX z1 z0 : Calls Try.prog _ _ X fun e w' => e = .returned a1.v ∧ Below X.heap.size X w')
  have CD2 := Lib.hid fun X (hX : Pyr X b D true ts) => (e2 ▸ At_any 0 0 1 X hX z0 z1 : Calls Try.prog _ _ X fun e w' => e = .returned a2.v ∧ Below X.heap.size X w')
  have CD3 := Lib.hid fun X (hX : Pyr X b D true ts) => (e3 ▸ At_any 0 1 1 X hX z1 z1 : Calls Try.prog _ _ X fun e w' => e = .returned a3.v ∧ Below X.heap.size X w')
  have CE := Lib.hid fun X (hX : Pyr X b2 D true (put ts (sd D) 1 1 1 [nine] 1)) => (E3 ▸ At_any 0 1 1 X hX z1 z1 : Calls Try.prog _ _ X fun e w' => e = .returned nine.v ∧ Below X.heap.size X w')
  have CS0 := Lib.hid fun X (hX : Pyr X b D true ts) => ((show szE D 0 = 8 by rw [HD.out]; decide) ▸ Size_any 0 X hX : Calls Try.prog _ _ X fun e w' => e = .returned (.int .i64 8) ∧ X = w')
  have CS1 := Lib.hid fun X (hX : Pyr X b D true ts) => ((show szE D 1 = 4 by rw [HD.out]; decide) ▸ Size_any 1 X hX : Calls Try.prog _ _ X fun e w' => e = .returned (.int .i64 4) ∧ X = w')
  have CS2 := Lib.hid fun X (hX : Pyr X b D true ts) => ((show szE D 2 = 0 by rw [HD.out]; decide) ▸ Size_any 2 X hX : Calls Try.prog _ _ X fun e w' => e = .returned (.int .i64 0) ∧ X = w')
  have CDp := Lib.hid fun X (hX : Pyr X b D true ts) => ((show (D : Int) = 1 by rw [HD.out]; rfl) ▸ Depth_any X hX : Calls Try.prog _ _ X fun e w' => e = .returned (.int .i64 1) ∧ X = w')
  have CMy := Lib.hid fun X => ((show mayT (D : Int) q = true by rw [HQ.out, HD.out]; decide) ▸ May_any (D : Int) true (some ⟨g, 0, none⟩) q cap X : Calls Try.prog _ _ X fun e w' => e = .returned (.bool true) ∧ Below X.heap.size X w')
  clear e7 e0 e1 e2 e3 E1 E2 E3 z0 z1
  go_upto_region 11 with (fail)
  simp only [List.append_eq, List.cons_append, List.nil_append]
  refine PredT.region_of (W := w5) (w5.heap.size) (Nat.le_refl _) [] [
      fun _ => True] [
      PredT.At 0 (.int .i64 1),
      PredT.At 0 (.bool true),
      PredT.At 0 (.bool true),
      PredT.At 0 (.pointer (some ⟨b, 0, none⟩)),
      PredT.At 0 (.int .i64 8),
      PredT.At 0 (.bool true),
      PredT.At 0 (.bool true),
      PredT.At 0 (.bool true),
      PredT.At 0 (.pointer (some ⟨b, 0, none⟩)),
      PredT.At 0 (.int .i64 4),
      PredT.At 0 (.bool true),
      PredT.At 0 (.bool true),
      PredT.At 0 (.bool true),
      PredT.At 0 (.pointer (some ⟨b, 0, none⟩)),
      PredT.At 0 (.int .i64 0),
      PredT.At 0 (.bool true),
      PredT.At 0 (.bool true),
      PredT.At 0 (.bool true),
      PredT.At 0 (.pointer (some ⟨b, 0, none⟩)),
      PredT.At 0 (p7.v),
      PredT.At 0 (.pointer (some ⟨b, 0, none⟩)),
      PredT.At 0 (p7.v),
      PredT.At 0 (.bool true),
      PredT.At 0 (.bool true),
      PredT.At 0 (.bool true),
      PredT.At 0 (.pointer (some ⟨b, 0, none⟩)),
      PredT.At 0 ((mean a0 a1 a2 a3).v),
      PredT.At 0 (.pointer (some ⟨b, 0, none⟩)),
      PredT.At 0 (a0.v),
      PredT.At 0 (.pointer (some ⟨b, 0, none⟩)),
      PredT.At 0 (a1.v),
      PredT.At 0 (.pointer (some ⟨b, 0, none⟩)),
      PredT.At 0 (a2.v),
      PredT.At 0 (.pointer (some ⟨b, 0, none⟩)),
      PredT.At 0 (a3.v),
      PredT.At 0 ((mean a0 a1 a2 a3).v),
      PredT.At 0 (.bool true),
      PredT.At 0 (.bool true),
      PredT.At 0 (.bool true),
      PredT.At 0 (.pointer (some ⟨b2, 0, none⟩)),
      PredT.At 0 (nine.v),
      PredT.At 0 (nine.v),
      PredT.At 0 (.bool true),
      PredT.At 0 (.bool true),
      PredT.At 0 (.bool true),
      PredT.At 0 (.int .i64 1),
      PredT.At 0 (.bool true),
      PredT.At 0 (.bool true),
      PredT.At 0 (.bool true),
      PredT.At 0 (.pointer (some ⟨b, 0, none⟩)),
      PredT.At 0 (.int .i64 1),
      PredT.At 0 (.bool true),
      PredT.At 0 (.bool true),
      PredT.At 0 (.bool true),
      PredT.At 0 (.pointer (some ⟨b, 0, none⟩)),
      PredT.At 0 (.bool true),
      PredT.At 0 (.bool true),
      PredT.At 0 (.bool true),
      PredT.At 0 (.pointer (some ⟨b, 0, none⟩)),
      PredT.When 0 (fun u y => ∃ g2 cap2, u = .agg #[.int .i64 D, .bool true, .slice (some ⟨g2, 0, none⟩) q cap2] ∧ Reads y 4 (some ⟨g2, 0, none⟩) q (cp ts)),
      PredT.At 0 (.agg #[.int .i64 D, .bool true, .slice (some ⟨g, 0, none⟩) q cap]),
      PredT.At 0 (.bool true),
      PredT.At 0 (.bool true),
      PredT.At 0 (.bool true),
      PredT.At 0 (.pointer none),
      PredT.At 0 (.int .i64 0),
      PredT.At 0 (.bool true),
      PredT.At 0 (.bool true),
      PredT.At 0 (.bool true),
      PredT.At 0 (.pointer none),
      PredT.At 0 (.int .i64 0),
      PredT.At 0 (.bool true),
      PredT.At 0 (.bool true),
      PredT.At 0 (.bool true),
      PredT.At 0 (.agg #[.int .i64 D, .bool true, .slice (some ⟨g, 0, none⟩) q cap]),
      PredT.At 0 (.bool true),
      PredT.At 0 (.bool true),
      PredT.At 0 (.bool true)] (by kernel_rfl) (by kernel_rfl) (by kernel_rfl) (by decide) (by decide) ?_ ?_ ?_ ?_ ?_ ?_
  · exact ⟨PredT.at_stab _ _ _ _, PredT.at_stab _ _ _ _, PredT.at_stab _ _ _ _, PredT.at_stab _ _ _ _, PredT.at_stab _ _ _ _, PredT.at_stab _ _ _ _, PredT.at_stab _ _ _ _, PredT.at_stab _ _ _ _, PredT.at_stab _ _ _ _, PredT.at_stab _ _ _ _, PredT.at_stab _ _ _ _, PredT.at_stab _ _ _ _, PredT.at_stab _ _ _ _, PredT.at_stab _ _ _ _, PredT.at_stab _ _ _ _, PredT.at_stab _ _ _ _, PredT.at_stab _ _ _ _, PredT.at_stab _ _ _ _, PredT.at_stab _ _ _ _, PredT.at_stab _ _ _ _, PredT.at_stab _ _ _ _, PredT.at_stab _ _ _ _, PredT.at_stab _ _ _ _, PredT.at_stab _ _ _ _, PredT.at_stab _ _ _ _, PredT.at_stab _ _ _ _, PredT.at_stab _ _ _ _, PredT.at_stab _ _ _ _, PredT.at_stab _ _ _ _, PredT.at_stab _ _ _ _, PredT.at_stab _ _ _ _, PredT.at_stab _ _ _ _, PredT.at_stab _ _ _ _, PredT.at_stab _ _ _ _, PredT.at_stab _ _ _ _, PredT.at_stab _ _ _ _, PredT.at_stab _ _ _ _, PredT.at_stab _ _ _ _, PredT.at_stab _ _ _ _, PredT.at_stab _ _ _ _, PredT.at_stab _ _ _ _, PredT.at_stab _ _ _ _, PredT.at_stab _ _ _ _, PredT.at_stab _ _ _ _, PredT.at_stab _ _ _ _, PredT.at_stab _ _ _ _, PredT.at_stab _ _ _ _, PredT.at_stab _ _ _ _, PredT.at_stab _ _ _ _, PredT.at_stab _ _ _ _, PredT.at_stab _ _ _ _, PredT.at_stab _ _ _ _, PredT.at_stab _ _ _ _, PredT.at_stab _ _ _ _, PredT.at_stab _ _ _ _, PredT.at_stab _ _ _ _, PredT.at_stab _ _ _ _, PredT.at_stab _ _ _ _, PredT.at_stab _ _ _ _, PredT.when_stab _ _ _ (fun u y y' ⟨g2, cap2, h1, h2⟩ hb => ⟨g2, cap2, h1, h2.below hb (Nat.le_refl _)⟩), PredT.at_stab _ _ _ _, PredT.at_stab _ _ _ _, PredT.at_stab _ _ _ _, PredT.at_stab _ _ _ _, PredT.at_stab _ _ _ _, PredT.at_stab _ _ _ _, PredT.at_stab _ _ _ _, PredT.at_stab _ _ _ _, PredT.at_stab _ _ _ _, PredT.at_stab _ _ _ _, PredT.at_stab _ _ _ _, PredT.at_stab _ _ _ _, PredT.at_stab _ _ _ _, PredT.at_stab _ _ _ _, PredT.at_stab _ _ _ _, PredT.at_stab _ _ _ _, PredT.at_stab _ _ _ _, PredT.at_stab _ _ _ _, trivial⟩
  · intro q hq
    rcases List.mem_cons.1 hq with rfl | hq
    · exact fun _ _ h _ => trivial
    cases hq
  · exact trivial
  · refine ⟨.inr ?_, .inr ?_, .inr ?_, .inr ?_, .inr ?_, .inr ?_, .inr ?_, .inr ?_, .inr ?_, .inr ?_, .inr ?_, .inr ?_, .inr ?_, .inr ?_, .inr ?_, .inr ?_, .inr ?_, .inr ?_, .inr ?_, .inr ?_, .inr ?_, .inr ?_, .inr ?_, .inr ?_, .inr ?_, .inr ?_, .inr ?_, .inr ?_, .inr ?_, .inr ?_, .inr ?_, .inr ?_, .inr ?_, .inr ?_, .inr ?_, .inr ?_, .inr ?_, .inr ?_, .inr ?_, .inr ?_, .inr ?_, .inr ?_, .inr ?_, .inr ?_, .inr ?_, .inr ?_, .inr ?_, .inr ?_, .inr ?_, .inr ?_, .inr ?_, .inr ?_, .inr ?_, .inr ?_, .inr ?_, .inr ?_, .inr ?_, .inr ?_, .inr ?_, .inr ?_, .inr ?_, .inr ?_, .inr ?_, .inr ?_, .inr ?_, .inr ?_, .inr ?_, .inr ?_, .inr ?_, .inr ?_, .inr ?_, .inr ?_, .inr ?_, .inr ?_, .inr ?_, .inr ?_, .inr ?_, .inr ?_, trivial⟩
    · intro b9 X ph hE hd hn hS hV hI hF
      have r5 : b9.tmps[5]?.getD undef = .int .i64 1 := (hn 5 (by kernel_rfl)).trans rfl
      exact Pred.yields_run (v := .int .i64 1) (Pred.wanted_none rfl) (by go_simp) ⟨Below.refl _ _, rfl, Nat.zero_le _⟩
    · intro b9 X ph hE hd hn hS hV hI hF
      obtain ⟨r49, j49⟩ : PredT.At 0 (.int .i64 1) (b9.tmps[49]?.getD undef) X ph := hV 0 _ 49 rfl rfl (Pred.waits_near (by kernel_rfl) (by kernel_rfl))
      exact Pred.yields_run (v := .bool true) (Pred.wanted_none rfl) (by go_simp) ⟨Below.refl _ _, rfl, Nat.zero_le _⟩
    · intro b9 X ph hE hd hn hS hV hI hF
      obtain ⟨r50, j50⟩ : PredT.At 0 (.bool true) (b9.tmps[50]?.getD undef) X ph := hV 1 _ 50 rfl rfl (Pred.waits_near (by kernel_rfl) (by kernel_rfl))
      exact Pred.yields_run (v := .bool true) (Pred.wanted_none rfl) (by go_simp) ⟨Below.refl _ _, rfl, Nat.zero_le _⟩
    · intro b9 X ph hE hd hn hS hV hI hF
      have r2 : b9.tmps[2]?.getD undef = .pointer (some ⟨b, 0, none⟩) := (hn 2 (by kernel_rfl)).trans rfl
      obtain ⟨r51, j51⟩ : PredT.At 0 (.bool true) (b9.tmps[51]?.getD undef) X ph := hV 2 _ 51 rfl rfl (Pred.waits_near (by kernel_rfl) (by kernel_rfl))
      exact Pred.yields_run (v := .pointer (some ⟨b, 0, none⟩)) ((Pred.wanted_at (g := 2) (d := 51) (f := true) rfl rfl r51).trans rfl) (by go_simp) ⟨Below.refl _ _, rfl, Nat.zero_le _⟩
    · intro b9 X ph hE hd hn hS hV hI hF
      obtain ⟨r52, j52⟩ : PredT.At 0 (.pointer (some ⟨b, 0, none⟩)) (b9.tmps[52]?.getD undef) X ph := hV 3 _ 52 rfl rfl (Pred.waits_near (by kernel_rfl) (by kernel_rfl))
      obtain ⟨r51, j51⟩ : PredT.At 0 (.bool true) (b9.tmps[51]?.getD undef) X ph := hV 2 _ 51 rfl rfl (Pred.waits_near (by kernel_rfl) (by kernel_rfl))
      refine Pred.yields_call (f := 19) (args := #[.pointer (some ⟨b, 0, none⟩), .int .i64 0]) ((Pred.wanted_at (g := 2) (d := 51) (f := true) rfl rfl r51).trans rfl) (by go_simp) ?_
      refine (CS0.out X (hP5.below hE)).mono ?_
      rintro e _ ⟨rfl, rfl⟩
      exact ⟨_, rfl, Below.refl _ _, rfl, Nat.zero_le _⟩
    · intro b9 X ph hE hd hn hS hV hI hF
      obtain ⟨r53, j53⟩ : PredT.At 0 (.int .i64 8) (b9.tmps[53]?.getD undef) X ph := hV 4 _ 53 rfl rfl (Pred.waits_near (by kernel_rfl) (by kernel_rfl))
      obtain ⟨r51, j51⟩ : PredT.At 0 (.bool true) (b9.tmps[51]?.getD undef) X ph := hV 2 _ 51 rfl rfl (Pred.waits_near (by kernel_rfl) (by kernel_rfl))
      exact Pred.yields_run (v := .bool true) ((Pred.wanted_at (g := 2) (d := 51) (f := true) rfl rfl r51).trans rfl) (by go_simp) ⟨Below.refl _ _, rfl, Nat.zero_le _⟩
    · intro b9 X ph hE hd hn hS hV hI hF
      obtain ⟨r51, j51⟩ : PredT.At 0 (.bool true) (b9.tmps[51]?.getD undef) X ph := hV 2 _ 51 rfl rfl (Pred.waits_near (by kernel_rfl) (by kernel_rfl))
      obtain ⟨r54, j54⟩ : PredT.At 0 (.bool true) (b9.tmps[54]?.getD undef) X ph := hV 5 _ 54 rfl rfl (Pred.waits_near (by kernel_rfl) (by kernel_rfl))
      exact Pred.yields_run (v := .bool true) (Pred.wanted_none rfl) (by go_simp) ⟨Below.refl _ _, rfl, Nat.zero_le _⟩
    · intro b9 X ph hE hd hn hS hV hI hF
      obtain ⟨r55, j55⟩ : PredT.At 0 (.bool true) (b9.tmps[55]?.getD undef) X ph := hV 6 _ 55 rfl rfl (Pred.waits_near (by kernel_rfl) (by kernel_rfl))
      exact Pred.yields_run (v := .bool true) (Pred.wanted_none rfl) (by go_simp) ⟨Below.refl _ _, rfl, Nat.zero_le _⟩
    · intro b9 X ph hE hd hn hS hV hI hF
      have r2 : b9.tmps[2]?.getD undef = .pointer (some ⟨b, 0, none⟩) := (hn 2 (by kernel_rfl)).trans rfl
      obtain ⟨r56, j56⟩ : PredT.At 0 (.bool true) (b9.tmps[56]?.getD undef) X ph := hV 7 _ 56 rfl rfl (Pred.waits_near (by kernel_rfl) (by kernel_rfl))
      exact Pred.yields_run (v := .pointer (some ⟨b, 0, none⟩)) ((Pred.wanted_at (g := 7) (d := 56) (f := true) rfl rfl r56).trans rfl) (by go_simp) ⟨Below.refl _ _, rfl, Nat.zero_le _⟩
    · intro b9 X ph hE hd hn hS hV hI hF
      obtain ⟨r57, j57⟩ : PredT.At 0 (.pointer (some ⟨b, 0, none⟩)) (b9.tmps[57]?.getD undef) X ph := hV 8 _ 57 rfl rfl (Pred.waits_near (by kernel_rfl) (by kernel_rfl))
      obtain ⟨r56, j56⟩ : PredT.At 0 (.bool true) (b9.tmps[56]?.getD undef) X ph := hV 7 _ 56 rfl rfl (Pred.waits_near (by kernel_rfl) (by kernel_rfl))
      refine Pred.yields_call (f := 19) (args := #[.pointer (some ⟨b, 0, none⟩), .int .i64 1]) ((Pred.wanted_at (g := 7) (d := 56) (f := true) rfl rfl r56).trans rfl) (by go_simp) ?_
      refine (CS1.out X (hP5.below hE)).mono ?_
      rintro e _ ⟨rfl, rfl⟩
      exact ⟨_, rfl, Below.refl _ _, rfl, Nat.zero_le _⟩
    · intro b9 X ph hE hd hn hS hV hI hF
      obtain ⟨r58, j58⟩ : PredT.At 0 (.int .i64 4) (b9.tmps[58]?.getD undef) X ph := hV 9 _ 58 rfl rfl (Pred.waits_near (by kernel_rfl) (by kernel_rfl))
      obtain ⟨r56, j56⟩ : PredT.At 0 (.bool true) (b9.tmps[56]?.getD undef) X ph := hV 7 _ 56 rfl rfl (Pred.waits_near (by kernel_rfl) (by kernel_rfl))
      exact Pred.yields_run (v := .bool true) ((Pred.wanted_at (g := 7) (d := 56) (f := true) rfl rfl r56).trans rfl) (by go_simp) ⟨Below.refl _ _, rfl, Nat.zero_le _⟩
    · intro b9 X ph hE hd hn hS hV hI hF
      obtain ⟨r56, j56⟩ : PredT.At 0 (.bool true) (b9.tmps[56]?.getD undef) X ph := hV 7 _ 56 rfl rfl (Pred.waits_near (by kernel_rfl) (by kernel_rfl))
      obtain ⟨r59, j59⟩ : PredT.At 0 (.bool true) (b9.tmps[59]?.getD undef) X ph := hV 10 _ 59 rfl rfl (Pred.waits_near (by kernel_rfl) (by kernel_rfl))
      exact Pred.yields_run (v := .bool true) (Pred.wanted_none rfl) (by go_simp) ⟨Below.refl _ _, rfl, Nat.zero_le _⟩
    · intro b9 X ph hE hd hn hS hV hI hF
      obtain ⟨r60, j60⟩ : PredT.At 0 (.bool true) (b9.tmps[60]?.getD undef) X ph := hV 11 _ 60 rfl rfl (Pred.waits_near (by kernel_rfl) (by kernel_rfl))
      exact Pred.yields_run (v := .bool true) (Pred.wanted_none rfl) (by go_simp) ⟨Below.refl _ _, rfl, Nat.zero_le _⟩
    · intro b9 X ph hE hd hn hS hV hI hF
      have r2 : b9.tmps[2]?.getD undef = .pointer (some ⟨b, 0, none⟩) := (hn 2 (by kernel_rfl)).trans rfl
      obtain ⟨r61, j61⟩ : PredT.At 0 (.bool true) (b9.tmps[61]?.getD undef) X ph := hV 12 _ 61 rfl rfl (Pred.waits_near (by kernel_rfl) (by kernel_rfl))
      exact Pred.yields_run (v := .pointer (some ⟨b, 0, none⟩)) ((Pred.wanted_at (g := 12) (d := 61) (f := true) rfl rfl r61).trans rfl) (by go_simp) ⟨Below.refl _ _, rfl, Nat.zero_le _⟩
    · intro b9 X ph hE hd hn hS hV hI hF
      obtain ⟨r62, j62⟩ : PredT.At 0 (.pointer (some ⟨b, 0, none⟩)) (b9.tmps[62]?.getD undef) X ph := hV 13 _ 62 rfl rfl (Pred.waits_near (by kernel_rfl) (by kernel_rfl))
      obtain ⟨r61, j61⟩ : PredT.At 0 (.bool true) (b9.tmps[61]?.getD undef) X ph := hV 12 _ 61 rfl rfl (Pred.waits_near (by kernel_rfl) (by kernel_rfl))
      refine Pred.yields_call (f := 19) (args := #[.pointer (some ⟨b, 0, none⟩), .int .i64 2]) ((Pred.wanted_at (g := 12) (d := 61) (f := true) rfl rfl r61).trans rfl) (by go_simp) ?_
      refine (CS2.out X (hP5.below hE)).mono ?_
      rintro e _ ⟨rfl, rfl⟩
      exact ⟨_, rfl, Below.refl _ _, rfl, Nat.zero_le _⟩
    · intro b9 X ph hE hd hn hS hV hI hF
      obtain ⟨r63, j63⟩ : PredT.At 0 (.int .i64 0) (b9.tmps[63]?.getD undef) X ph := hV 14 _ 63 rfl rfl (Pred.waits_near (by kernel_rfl) (by kernel_rfl))
      obtain ⟨r61, j61⟩ : PredT.At 0 (.bool true) (b9.tmps[61]?.getD undef) X ph := hV 12 _ 61 rfl rfl (Pred.waits_near (by kernel_rfl) (by kernel_rfl))
      exact Pred.yields_run (v := .bool true) ((Pred.wanted_at (g := 12) (d := 61) (f := true) rfl rfl r61).trans rfl) (by go_simp) ⟨Below.refl _ _, rfl, Nat.zero_le _⟩
    · intro b9 X ph hE hd hn hS hV hI hF
      obtain ⟨r61, j61⟩ : PredT.At 0 (.bool true) (b9.tmps[61]?.getD undef) X ph := hV 12 _ 61 rfl rfl (Pred.waits_near (by kernel_rfl) (by kernel_rfl))
      obtain ⟨r64, j64⟩ : PredT.At 0 (.bool true) (b9.tmps[64]?.getD undef) X ph := hV 15 _ 64 rfl rfl (Pred.waits_near (by kernel_rfl) (by kernel_rfl))
      exact Pred.yields_run (v := .bool true) (Pred.wanted_none rfl) (by go_simp) ⟨Below.refl _ _, rfl, Nat.zero_le _⟩
    · intro b9 X ph hE hd hn hS hV hI hF
      obtain ⟨r65, j65⟩ : PredT.At 0 (.bool true) (b9.tmps[65]?.getD undef) X ph := hV 16 _ 65 rfl rfl (Pred.waits_near (by kernel_rfl) (by kernel_rfl))
      exact Pred.yields_run (v := .bool true) (Pred.wanted_none rfl) (by go_simp) ⟨Below.refl _ _, rfl, Nat.zero_le _⟩
    · intro b9 X ph hE hd hn hS hV hI hF
      have r2 : b9.tmps[2]?.getD undef = .pointer (some ⟨b, 0, none⟩) := (hn 2 (by kernel_rfl)).trans rfl
      obtain ⟨r66, j66⟩ : PredT.At 0 (.bool true) (b9.tmps[66]?.getD undef) X ph := hV 17 _ 66 rfl rfl (Pred.waits_near (by kernel_rfl) (by kernel_rfl))
      exact Pred.yields_run (v := .pointer (some ⟨b, 0, none⟩)) ((Pred.wanted_at (g := 17) (d := 66) (f := true) rfl rfl r66).trans rfl) (by go_simp) ⟨Below.refl _ _, rfl, Nat.zero_le _⟩
    · intro b9 X ph hE hd hn hS hV hI hF
      obtain ⟨r67, j67⟩ : PredT.At 0 (.pointer (some ⟨b, 0, none⟩)) (b9.tmps[67]?.getD undef) X ph := hV 18 _ 67 rfl rfl (Pred.waits_near (by kernel_rfl) (by kernel_rfl))
      obtain ⟨r66, j66⟩ : PredT.At 0 (.bool true) (b9.tmps[66]?.getD undef) X ph := hV 17 _ 66 rfl rfl (Pred.waits_near (by kernel_rfl) (by kernel_rfl))
      refine Pred.yields_call (f := 17) (args := #[.pointer (some ⟨b, 0, none⟩), .int .i64 0, .int .i64 (-1), .int .i64 8]) ((Pred.wanted_at (g := 17) (d := 66) (f := true) rfl rfl r66).trans rfl) (by go_simp) ?_
      refine (CA.out X (hP5.below hE)).mono ?_
      rintro e w9 ⟨rfl, hb⟩
      exact ⟨_, rfl, hb, rfl, Nat.zero_le _⟩
    · intro b9 X ph hE hd hn hS hV hI hF
      have r2 : b9.tmps[2]?.getD undef = .pointer (some ⟨b, 0, none⟩) := (hn 2 (by kernel_rfl)).trans rfl
      obtain ⟨r66, j66⟩ : PredT.At 0 (.bool true) (b9.tmps[66]?.getD undef) X ph := hV 17 _ 66 rfl rfl (Pred.waits_near (by kernel_rfl) (by kernel_rfl))
      exact Pred.yields_run (v := .pointer (some ⟨b, 0, none⟩)) ((Pred.wanted_at (g := 17) (d := 66) (f := true) rfl rfl r66).trans rfl) (by go_simp) ⟨Below.refl _ _, rfl, Nat.zero_le _⟩
    · intro b9 X ph hE hd hn hS hV hI hF
      obtain ⟨r69, j69⟩ : PredT.At 0 (.pointer (some ⟨b, 0, none⟩)) (b9.tmps[69]?.getD undef) X ph := hV 20 _ 69 rfl rfl (Pred.waits_near (by kernel_rfl) (by kernel_rfl))
      obtain ⟨r66, j66⟩ : PredT.At 0 (.bool true) (b9.tmps[66]?.getD undef) X ph := hV 17 _ 66 rfl rfl (Pred.waits_near (by kernel_rfl) (by kernel_rfl))
      refine Pred.yields_call (f := 17) (args := #[.pointer (some ⟨b, 0, none⟩), .int .i64 0, .int .i64 7, .int .i64 0]) ((Pred.wanted_at (g := 17) (d := 66) (f := true) rfl rfl r66).trans rfl) (by go_simp) ?_
      refine (CB.out X (hP5.below hE)).mono ?_
      rintro e w9 ⟨rfl, hb⟩
      exact ⟨_, rfl, hb, rfl, Nat.zero_le _⟩
    · intro b9 X ph hE hd hn hS hV hI hF
      obtain ⟨r68, j68⟩ : PredT.At 0 (p7.v) (b9.tmps[68]?.getD undef) X ph := hV 19 _ 68 rfl rfl (Pred.waits_near (by kernel_rfl) (by kernel_rfl))
      obtain ⟨r70, j70⟩ : PredT.At 0 (p7.v) (b9.tmps[70]?.getD undef) X ph := hV 21 _ 70 rfl rfl (Pred.waits_near (by kernel_rfl) (by kernel_rfl))
      obtain ⟨r66, j66⟩ : PredT.At 0 (.bool true) (b9.tmps[66]?.getD undef) X ph := hV 17 _ 66 rfl rfl (Pred.waits_near (by kernel_rfl) (by kernel_rfl))
      exact Pred.yields_run (v := .bool true) ((Pred.wanted_at (g := 17) (d := 66) (f := true) rfl rfl r66).trans rfl) (by go_simp) ⟨Below.refl _ _, rfl, Nat.zero_le _⟩
    · intro b9 X ph hE hd hn hS hV hI hF
      obtain ⟨r66, j66⟩ : PredT.At 0 (.bool true) (b9.tmps[66]?.getD undef) X ph := hV 17 _ 66 rfl rfl (Pred.waits_near (by kernel_rfl) (by kernel_rfl))
      obtain ⟨r71, j71⟩ : PredT.At 0 (.bool true) (b9.tmps[71]?.getD undef) X ph := hV 22 _ 71 rfl rfl (Pred.waits_near (by kernel_rfl) (by kernel_rfl))
      exact Pred.yields_run (v := .bool true) (Pred.wanted_none rfl) (by go_simp) ⟨Below.refl _ _, rfl, Nat.zero_le _⟩
    · intro b9 X ph hE hd hn hS hV hI hF
      obtain ⟨r72, j72⟩ : PredT.At 0 (.bool true) (b9.tmps[72]?.getD undef) X ph := hV 23 _ 72 rfl rfl (Pred.waits_near (by kernel_rfl) (by kernel_rfl))
      exact Pred.yields_run (v := .bool true) (Pred.wanted_none rfl) (by go_simp) ⟨Below.refl _ _, rfl, Nat.zero_le _⟩
    · intro b9 X ph hE hd hn hS hV hI hF
      have r2 : b9.tmps[2]?.getD undef = .pointer (some ⟨b, 0, none⟩) := (hn 2 (by kernel_rfl)).trans rfl
      obtain ⟨r73, j73⟩ : PredT.At 0 (.bool true) (b9.tmps[73]?.getD undef) X ph := hV 24 _ 73 rfl rfl (Pred.waits_near (by kernel_rfl) (by kernel_rfl))
      exact Pred.yields_run (v := .pointer (some ⟨b, 0, none⟩)) ((Pred.wanted_at (g := 24) (d := 73) (f := true) rfl rfl r73).trans rfl) (by go_simp) ⟨Below.refl _ _, rfl, Nat.zero_le _⟩
    · intro b9 X ph hE hd hn hS hV hI hF
      obtain ⟨r74, j74⟩ : PredT.At 0 (.pointer (some ⟨b, 0, none⟩)) (b9.tmps[74]?.getD undef) X ph := hV 25 _ 74 rfl rfl (Pred.waits_near (by kernel_rfl) (by kernel_rfl))
      obtain ⟨r73, j73⟩ : PredT.At 0 (.bool true) (b9.tmps[73]?.getD undef) X ph := hV 24 _ 73 rfl rfl (Pred.waits_near (by kernel_rfl) (by kernel_rfl))
      refine Pred.yields_call (f := 17) (args := #[.pointer (some ⟨b, 0, none⟩), .int .i64 1, .int .i64 0, .int .i64 0]) ((Pred.wanted_at (g := 24) (d := 73) (f := true) rfl rfl r73).trans rfl) (by go_simp) ?_
      refine (CC.out X (hP5.below hE)).mono ?_
      rintro e w9 ⟨rfl, hb⟩
      exact ⟨_, rfl, hb, rfl, Nat.zero_le _⟩
    · intro b9 X ph hE hd hn hS hV hI hF
      have r2 : b9.tmps[2]?.getD undef = .pointer (some ⟨b, 0, none⟩) := (hn 2 (by kernel_rfl)).trans rfl
      obtain ⟨r73, j73⟩ : PredT.At 0 (.bool true) (b9.tmps[73]?.getD undef) X ph := hV 24 _ 73 rfl rfl (Pred.waits_near (by kernel_rfl) (by kernel_rfl))
      exact Pred.yields_run (v := .pointer (some ⟨b, 0, none⟩)) ((Pred.wanted_at (g := 24) (d := 73) (f := true) rfl rfl r73).trans rfl) (by go_simp) ⟨Below.refl _ _, rfl, Nat.zero_le _⟩
    · intro b9 X ph hE hd hn hS hV hI hF
      obtain ⟨r76, j76⟩ : PredT.At 0 (.pointer (some ⟨b, 0, none⟩)) (b9.tmps[76]?.getD undef) X ph := hV 27 _ 76 rfl rfl (Pred.waits_near (by kernel_rfl) (by kernel_rfl))
      obtain ⟨r73, j73⟩ : PredT.At 0 (.bool true) (b9.tmps[73]?.getD undef) X ph := hV 24 _ 73 rfl rfl (Pred.waits_near (by kernel_rfl) (by kernel_rfl))
      refine Pred.yields_call (f := 17) (args := #[.pointer (some ⟨b, 0, none⟩), .int .i64 0, .int .i64 0, .int .i64 0]) ((Pred.wanted_at (g := 24) (d := 73) (f := true) rfl rfl r73).trans rfl) (by go_simp) ?_
      refine (CD0.out X (hP5.below hE)).mono ?_
      rintro e w9 ⟨rfl, hb⟩
      exact ⟨_, rfl, hb, rfl, Nat.zero_le _⟩
    · intro b9 X ph hE hd hn hS hV hI hF
      have r2 : b9.tmps[2]?.getD undef = .pointer (some ⟨b, 0, none⟩) := (hn 2 (by kernel_rfl)).trans rfl
      obtain ⟨r73, j73⟩ : PredT.At 0 (.bool true) (b9.tmps[73]?.getD undef) X ph := hV 24 _ 73 rfl rfl (Pred.waits_near (by kernel_rfl) (by kernel_rfl))
      exact Pred.yields_run (v := .pointer (some ⟨b, 0, none⟩)) ((Pred.wanted_at (g := 24) (d := 73) (f := true) rfl rfl r73).trans rfl) (by go_simp) ⟨Below.refl _ _, rfl, Nat.zero_le _⟩
    · intro b9 X ph hE hd hn hS hV hI hF
      obtain ⟨r78, j78⟩ : PredT.At 0 (.pointer (some ⟨b, 0, none⟩)) (b9.tmps[78]?.getD undef) X ph := hV 29 _ 78 rfl rfl (Pred.waits_near (by kernel_rfl) (by kernel_rfl))
      obtain ⟨r73, j73⟩ : PredT.At 0 (.bool true) (b9.tmps[73]?.getD undef) X ph := hV 24 _ 73 rfl rfl (Pred.waits_near (by kernel_rfl) (by kernel_rfl))
      refine Pred.yields_call (f := 17) (args := #[.pointer (some ⟨b, 0, none⟩), .int .i64 0, .int .i64 1, .int .i64 0]) ((Pred.wanted_at (g := 24) (d := 73) (f := true) rfl rfl r73).trans rfl) (by go_simp) ?_
      refine (CD1.out X (hP5.below hE)).mono ?_
      rintro e w9 ⟨rfl, hb⟩
      exact ⟨_, rfl, hb, rfl, Nat.zero_le _⟩
    · intro b9 X ph hE hd hn hS hV hI hF
      have r2 : b9.tmps[2]?.getD undef = .pointer (some ⟨b, 0, none⟩) := (hn 2 (by kernel_rfl)).trans rfl
      obtain ⟨r73, j73⟩ : PredT.At 0 (.bool true) (b9.tmps[73]?.getD undef) X ph := hV 24 _ 73 rfl rfl (Pred.waits_near (by kernel_rfl) (by kernel_rfl))
      exact Pred.yields_run (v := .pointer (some ⟨b, 0, none⟩)) ((Pred.wanted_at (g := 24) (d := 73) (f := true) rfl rfl r73).trans rfl) (by go_simp) ⟨Below.refl _ _, rfl, Nat.zero_le _⟩
    · intro b9 X ph hE hd hn hS hV hI hF
      obtain ⟨r80, j80⟩ : PredT.At 0 (.pointer (some ⟨b, 0, none⟩)) (b9.tmps[80]?.getD undef) X ph := hV 31 _ 80 rfl rfl (Pred.waits_near (by kernel_rfl) (by kernel_rfl))
      obtain ⟨r73, j73⟩ : PredT.At 0 (.bool true) (b9.tmps[73]?.getD undef) X ph := hV 24 _ 73 rfl rfl (Pred.waits_near (by kernel_rfl) (by kernel_rfl))
      refine Pred.yields_call (f := 17) (args := #[.pointer (some ⟨b, 0, none⟩), .int .i64 0, .int .i64 0, .int .i64 1]) ((Pred.wanted_at (g := 24) (d := 73) (f := true) rfl rfl r73).trans rfl) (by go_simp) ?_
      refine (CD2.out X (hP5.below hE)).mono ?_
      rintro e w9 ⟨rfl, hb⟩
      exact ⟨_, rfl, hb, rfl, Nat.zero_le _⟩
    · intro b9 X ph hE hd hn hS hV hI hF
      have r2 : b9.tmps[2]?.getD undef = .pointer (some ⟨b, 0, none⟩) := (hn 2 (by kernel_rfl)).trans rfl
      obtain ⟨r73, j73⟩ : PredT.At 0 (.bool true) (b9.tmps[73]?.getD undef) X ph := hV 24 _ 73 rfl rfl (Pred.waits_near (by kernel_rfl) (by kernel_rfl))
      exact Pred.yields_run (v := .pointer (some ⟨b, 0, none⟩)) ((Pred.wanted_at (g := 24) (d := 73) (f := true) rfl rfl r73).trans rfl) (by go_simp) ⟨Below.refl _ _, rfl, Nat.zero_le _⟩
    · intro b9 X ph hE hd hn hS hV hI hF
      obtain ⟨r82, j82⟩ : PredT.At 0 (.pointer (some ⟨b, 0, none⟩)) (b9.tmps[82]?.getD undef) X ph := hV 33 _ 82 rfl rfl (Pred.waits_near (by kernel_rfl) (by kernel_rfl))
      obtain ⟨r73, j73⟩ : PredT.At 0 (.bool true) (b9.tmps[73]?.getD undef) X ph := hV 24 _ 73 rfl rfl (Pred.waits_near (by kernel_rfl) (by kernel_rfl))
      refine Pred.yields_call (f := 17) (args := #[.pointer (some ⟨b, 0, none⟩), .int .i64 0, .int .i64 1, .int .i64 1]) ((Pred.wanted_at (g := 24) (d := 73) (f := true) rfl rfl r73).trans rfl) (by go_simp) ?_
      refine (CD3.out X (hP5.below hE)).mono ?_
      rintro e w9 ⟨rfl, hb⟩
      exact ⟨_, rfl, hb, rfl, Nat.zero_le _⟩
    · intro b9 X ph hE hd hn hS hV hI hF
      obtain ⟨r77, j77⟩ : PredT.At 0 (a0.v) (b9.tmps[77]?.getD undef) X ph := hV 28 _ 77 rfl rfl (Pred.waits_near (by kernel_rfl) (by kernel_rfl))
      obtain ⟨r79, j79⟩ : PredT.At 0 (a1.v) (b9.tmps[79]?.getD undef) X ph := hV 30 _ 79 rfl rfl (Pred.waits_near (by kernel_rfl) (by kernel_rfl))
      obtain ⟨r81, j81⟩ : PredT.At 0 (a2.v) (b9.tmps[81]?.getD undef) X ph := hV 32 _ 81 rfl rfl (Pred.waits_near (by kernel_rfl) (by kernel_rfl))
      obtain ⟨r83, j83⟩ : PredT.At 0 (a3.v) (b9.tmps[83]?.getD undef) X ph := hV 34 _ 83 rfl rfl (Pred.waits_near (by kernel_rfl) (by kernel_rfl))
      obtain ⟨r73, j73⟩ : PredT.At 0 (.bool true) (b9.tmps[73]?.getD undef) X ph := hV 24 _ 73 rfl rfl (Pred.waits_near (by kernel_rfl) (by kernel_rfl))
      refine Pred.yields_call (f := 38) (args := #[a0.v, a1.v, a2.v, a3.v]) ((Pred.wanted_at (g := 24) (d := 73) (f := true) rfl rfl r73).trans rfl) (by go_simp) ?_
      refine (rmean_px X b0 b1 b2' b3).mono ?_
      rintro e w9 ⟨rfl, hb⟩
      exact ⟨_, rfl, hb, rfl, Nat.zero_le _⟩
    · intro b9 X ph hE hd hn hS hV hI hF
      obtain ⟨r75, j75⟩ : PredT.At 0 ((mean a0 a1 a2 a3).v) (b9.tmps[75]?.getD undef) X ph := hV 26 _ 75 rfl rfl (Pred.waits_near (by kernel_rfl) (by kernel_rfl))
      obtain ⟨r84, j84⟩ : PredT.At 0 ((mean a0 a1 a2 a3).v) (b9.tmps[84]?.getD undef) X ph := hV 35 _ 84 rfl rfl (Pred.waits_near (by kernel_rfl) (by kernel_rfl))
      obtain ⟨r73, j73⟩ : PredT.At 0 (.bool true) (b9.tmps[73]?.getD undef) X ph := hV 24 _ 73 rfl rfl (Pred.waits_near (by kernel_rfl) (by kernel_rfl))
      exact Pred.yields_run (v := .bool true) ((Pred.wanted_at (g := 24) (d := 73) (f := true) rfl rfl r73).trans rfl) (by go_simp) ⟨Below.refl _ _, rfl, Nat.zero_le _⟩
    · intro b9 X ph hE hd hn hS hV hI hF
      obtain ⟨r73, j73⟩ : PredT.At 0 (.bool true) (b9.tmps[73]?.getD undef) X ph := hV 24 _ 73 rfl rfl (Pred.waits_near (by kernel_rfl) (by kernel_rfl))
      obtain ⟨r85, j85⟩ : PredT.At 0 (.bool true) (b9.tmps[85]?.getD undef) X ph := hV 36 _ 85 rfl rfl (Pred.waits_near (by kernel_rfl) (by kernel_rfl))
      exact Pred.yields_run (v := .bool true) (Pred.wanted_none rfl) (by go_simp) ⟨Below.refl _ _, rfl, Nat.zero_le _⟩
    · intro b9 X ph hE hd hn hS hV hI hF
      obtain ⟨r86, j86⟩ : PredT.At 0 (.bool true) (b9.tmps[86]?.getD undef) X ph := hV 37 _ 86 rfl rfl (Pred.waits_near (by kernel_rfl) (by kernel_rfl))
      exact Pred.yields_run (v := .bool true) (Pred.wanted_none rfl) (by go_simp) ⟨Below.refl _ _, rfl, Nat.zero_le _⟩
    · intro b9 X ph hE hd hn hS hV hI hF
      have r6 : b9.tmps[6]?.getD undef = .pointer (some ⟨b2, 0, none⟩) := (hn 6 (by kernel_rfl)).trans rfl
      obtain ⟨r87, j87⟩ : PredT.At 0 (.bool true) (b9.tmps[87]?.getD undef) X ph := hV 38 _ 87 rfl rfl (Pred.waits_near (by kernel_rfl) (by kernel_rfl))
      exact Pred.yields_run (v := .pointer (some ⟨b2, 0, none⟩)) ((Pred.wanted_at (g := 38) (d := 87) (f := true) rfl rfl r87).trans rfl) (by go_simp) ⟨Below.refl _ _, rfl, Nat.zero_le _⟩
    · intro b9 X ph hE hd hn hS hV hI hF
      obtain ⟨r88, j88⟩ : PredT.At 0 (.pointer (some ⟨b2, 0, none⟩)) (b9.tmps[88]?.getD undef) X ph := hV 39 _ 88 rfl rfl (Pred.waits_near (by kernel_rfl) (by kernel_rfl))
      obtain ⟨r87, j87⟩ : PredT.At 0 (.bool true) (b9.tmps[87]?.getD undef) X ph := hV 38 _ 87 rfl rfl (Pred.waits_near (by kernel_rfl) (by kernel_rfl))
      refine Pred.yields_call (f := 17) (args := #[.pointer (some ⟨b2, 0, none⟩), .int .i64 0, .int .i64 1, .int .i64 1]) ((Pred.wanted_at (g := 38) (d := 87) (f := true) rfl rfl r87).trans rfl) (by go_simp) ?_
      refine (CE.out X (hW5.below hE)).mono ?_
      rintro e w9 ⟨rfl, hb⟩
      exact ⟨_, rfl, hb, rfl, Nat.zero_le _⟩
    · intro b9 X ph hE hd hn hS hV hI hF
      obtain ⟨r87, j87⟩ : PredT.At 0 (.bool true) (b9.tmps[87]?.getD undef) X ph := hV 38 _ 87 rfl rfl (Pred.waits_near (by kernel_rfl) (by kernel_rfl))
      exact Pred.yields_run (v := nine.v) ((Pred.wanted_at (g := 38) (d := 87) (f := true) rfl rfl r87).trans rfl) (by first | (go_simp; done) | (go_simp; rfl) | rfl) ⟨Below.refl _ _, rfl, Nat.zero_le _⟩
    · intro b9 X ph hE hd hn hS hV hI hF
      obtain ⟨r89, j89⟩ : PredT.At 0 (nine.v) (b9.tmps[89]?.getD undef) X ph := hV 40 _ 89 rfl rfl (Pred.waits_near (by kernel_rfl) (by kernel_rfl))
      obtain ⟨r90, j90⟩ : PredT.At 0 (nine.v) (b9.tmps[90]?.getD undef) X ph := hV 41 _ 90 rfl rfl (Pred.waits_near (by kernel_rfl) (by kernel_rfl))
      obtain ⟨r87, j87⟩ : PredT.At 0 (.bool true) (b9.tmps[87]?.getD undef) X ph := hV 38 _ 87 rfl rfl (Pred.waits_near (by kernel_rfl) (by kernel_rfl))
      exact Pred.yields_run (v := .bool true) ((Pred.wanted_at (g := 38) (d := 87) (f := true) rfl rfl r87).trans rfl) (by go_simp) ⟨Below.refl _ _, rfl, Nat.zero_le _⟩
    · intro b9 X ph hE hd hn hS hV hI hF
      obtain ⟨r87, j87⟩ : PredT.At 0 (.bool true) (b9.tmps[87]?.getD undef) X ph := hV 38 _ 87 rfl rfl (Pred.waits_near (by kernel_rfl) (by kernel_rfl))
      obtain ⟨r91, j91⟩ : PredT.At 0 (.bool true) (b9.tmps[91]?.getD undef) X ph := hV 42 _ 91 rfl rfl (Pred.waits_near (by kernel_rfl) (by kernel_rfl))
      exact Pred.yields_run (v := .bool true) (Pred.wanted_none rfl) (by go_simp) ⟨Below.refl _ _, rfl, Nat.zero_le _⟩
    · intro b9 X ph hE hd hn hS hV hI hF
      obtain ⟨r92, j92⟩ : PredT.At 0 (.bool true) (b9.tmps[92]?.getD undef) X ph := hV 43 _ 92 rfl rfl (Pred.waits_near (by kernel_rfl) (by kernel_rfl))
      exact Pred.yields_run (v := .bool true) (Pred.wanted_none rfl) (by go_simp) ⟨Below.refl _ _, rfl, Nat.zero_le _⟩
    · intro b9 X ph hE hd hn hS hV hI hF
      have r9 : b9.tmps[9]?.getD undef = .int .i64 1 := (hn 9 (by kernel_rfl)).trans rfl
      obtain ⟨r93, j93⟩ : PredT.At 0 (.bool true) (b9.tmps[93]?.getD undef) X ph := hV 44 _ 93 rfl rfl (Pred.waits_near (by kernel_rfl) (by kernel_rfl))
      exact Pred.yields_run (v := .int .i64 1) ((Pred.wanted_at (g := 44) (d := 93) (f := true) rfl rfl r93).trans rfl) (by go_simp) ⟨Below.refl _ _, rfl, Nat.zero_le _⟩
    · intro b9 X ph hE hd hn hS hV hI hF
      obtain ⟨r94, j94⟩ : PredT.At 0 (.int .i64 1) (b9.tmps[94]?.getD undef) X ph := hV 45 _ 94 rfl rfl (Pred.waits_near (by kernel_rfl) (by kernel_rfl))
      obtain ⟨r93, j93⟩ : PredT.At 0 (.bool true) (b9.tmps[93]?.getD undef) X ph := hV 44 _ 93 rfl rfl (Pred.waits_near (by kernel_rfl) (by kernel_rfl))
      exact Pred.yields_run (v := .bool true) ((Pred.wanted_at (g := 44) (d := 93) (f := true) rfl rfl r93).trans rfl) (by go_simp) ⟨Below.refl _ _, rfl, Nat.zero_le _⟩
    · intro b9 X ph hE hd hn hS hV hI hF
      obtain ⟨r93, j93⟩ : PredT.At 0 (.bool true) (b9.tmps[93]?.getD undef) X ph := hV 44 _ 93 rfl rfl (Pred.waits_near (by kernel_rfl) (by kernel_rfl))
      obtain ⟨r95, j95⟩ : PredT.At 0 (.bool true) (b9.tmps[95]?.getD undef) X ph := hV 46 _ 95 rfl rfl (Pred.waits_near (by kernel_rfl) (by kernel_rfl))
      exact Pred.yields_run (v := .bool true) (Pred.wanted_none rfl) (by go_simp) ⟨Below.refl _ _, rfl, Nat.zero_le _⟩
    · intro b9 X ph hE hd hn hS hV hI hF
      obtain ⟨r96, j96⟩ : PredT.At 0 (.bool true) (b9.tmps[96]?.getD undef) X ph := hV 47 _ 96 rfl rfl (Pred.waits_near (by kernel_rfl) (by kernel_rfl))
      exact Pred.yields_run (v := .bool true) (Pred.wanted_none rfl) (by go_simp) ⟨Below.refl _ _, rfl, Nat.zero_le _⟩
    · intro b9 X ph hE hd hn hS hV hI hF
      have r2 : b9.tmps[2]?.getD undef = .pointer (some ⟨b, 0, none⟩) := (hn 2 (by kernel_rfl)).trans rfl
      obtain ⟨r97, j97⟩ : PredT.At 0 (.bool true) (b9.tmps[97]?.getD undef) X ph := hV 48 _ 97 rfl rfl (Pred.waits_near (by kernel_rfl) (by kernel_rfl))
      exact Pred.yields_run (v := .pointer (some ⟨b, 0, none⟩)) ((Pred.wanted_at (g := 48) (d := 97) (f := true) rfl rfl r97).trans rfl) (by go_simp) ⟨Below.refl _ _, rfl, Nat.zero_le _⟩
    · intro b9 X ph hE hd hn hS hV hI hF
      obtain ⟨r98, j98⟩ : PredT.At 0 (.pointer (some ⟨b, 0, none⟩)) (b9.tmps[98]?.getD undef) X ph := hV 49 _ 98 rfl rfl (Pred.waits_near (by kernel_rfl) (by kernel_rfl))
      obtain ⟨r97, j97⟩ : PredT.At 0 (.bool true) (b9.tmps[97]?.getD undef) X ph := hV 48 _ 97 rfl rfl (Pred.waits_near (by kernel_rfl) (by kernel_rfl))
      refine Pred.yields_call (f := 23) (args := #[.pointer (some ⟨b, 0, none⟩)]) ((Pred.wanted_at (g := 48) (d := 97) (f := true) rfl rfl r97).trans rfl) (by go_simp) ?_
      refine (CDp.out X (hP5.below hE)).mono ?_
      rintro e _ ⟨rfl, rfl⟩
      exact ⟨_, rfl, Below.refl _ _, rfl, Nat.zero_le _⟩
    · intro b9 X ph hE hd hn hS hV hI hF
      obtain ⟨r99, j99⟩ : PredT.At 0 (.int .i64 1) (b9.tmps[99]?.getD undef) X ph := hV 50 _ 99 rfl rfl (Pred.waits_near (by kernel_rfl) (by kernel_rfl))
      obtain ⟨r97, j97⟩ : PredT.At 0 (.bool true) (b9.tmps[97]?.getD undef) X ph := hV 48 _ 97 rfl rfl (Pred.waits_near (by kernel_rfl) (by kernel_rfl))
      exact Pred.yields_run (v := .bool true) ((Pred.wanted_at (g := 48) (d := 97) (f := true) rfl rfl r97).trans rfl) (by go_simp) ⟨Below.refl _ _, rfl, Nat.zero_le _⟩
    · intro b9 X ph hE hd hn hS hV hI hF
      obtain ⟨r97, j97⟩ : PredT.At 0 (.bool true) (b9.tmps[97]?.getD undef) X ph := hV 48 _ 97 rfl rfl (Pred.waits_near (by kernel_rfl) (by kernel_rfl))
      obtain ⟨r100, j100⟩ : PredT.At 0 (.bool true) (b9.tmps[100]?.getD undef) X ph := hV 51 _ 100 rfl rfl (Pred.waits_near (by kernel_rfl) (by kernel_rfl))
      exact Pred.yields_run (v := .bool true) (Pred.wanted_none rfl) (by go_simp) ⟨Below.refl _ _, rfl, Nat.zero_le _⟩
    · intro b9 X ph hE hd hn hS hV hI hF
      obtain ⟨r101, j101⟩ : PredT.At 0 (.bool true) (b9.tmps[101]?.getD undef) X ph := hV 52 _ 101 rfl rfl (Pred.waits_near (by kernel_rfl) (by kernel_rfl))
      exact Pred.yields_run (v := .bool true) (Pred.wanted_none rfl) (by go_simp) ⟨Below.refl _ _, rfl, Nat.zero_le _⟩
    · intro b9 X ph hE hd hn hS hV hI hF
      have r2 : b9.tmps[2]?.getD undef = .pointer (some ⟨b, 0, none⟩) := (hn 2 (by kernel_rfl)).trans rfl
      obtain ⟨r102, j102⟩ : PredT.At 0 (.bool true) (b9.tmps[102]?.getD undef) X ph := hV 53 _ 102 rfl rfl (Pred.waits_near (by kernel_rfl) (by kernel_rfl))
      exact Pred.yields_run (v := .pointer (some ⟨b, 0, none⟩)) ((Pred.wanted_at (g := 53) (d := 102) (f := true) rfl rfl r102).trans rfl) (by go_simp) ⟨Below.refl _ _, rfl, Nat.zero_le _⟩
    · intro b9 X ph hE hd hn hS hV hI hF
      obtain ⟨r103, j103⟩ : PredT.At 0 (.pointer (some ⟨b, 0, none⟩)) (b9.tmps[103]?.getD undef) X ph := hV 54 _ 103 rfl rfl (Pred.waits_near (by kernel_rfl) (by kernel_rfl))
      obtain ⟨r102, j102⟩ : PredT.At 0 (.bool true) (b9.tmps[102]?.getD undef) X ph := hV 53 _ 102 rfl rfl (Pred.waits_near (by kernel_rfl) (by kernel_rfl))
      refine Pred.yields_call (f := 24) (args := #[.pointer (some ⟨b, 0, none⟩)]) ((Pred.wanted_at (g := 53) (d := 102) (f := true) rfl rfl r102).trans rfl) (by go_simp) ?_
      refine (Wrap_any X (hP5.below hE)).mono ?_
      rintro e _ ⟨rfl, rfl⟩
      exact ⟨_, rfl, Below.refl _ _, rfl, Nat.zero_le _⟩
    · intro b9 X ph hE hd hn hS hV hI hF
      obtain ⟨r102, j102⟩ : PredT.At 0 (.bool true) (b9.tmps[102]?.getD undef) X ph := hV 53 _ 102 rfl rfl (Pred.waits_near (by kernel_rfl) (by kernel_rfl))
      obtain ⟨r104, j104⟩ : PredT.At 0 (.bool true) (b9.tmps[104]?.getD undef) X ph := hV 55 _ 104 rfl rfl (Pred.waits_near (by kernel_rfl) (by kernel_rfl))
      exact Pred.yields_run (v := .bool true) (Pred.wanted_none rfl) (by go_simp) ⟨Below.refl _ _, rfl, Nat.zero_le _⟩
    · intro b9 X ph hE hd hn hS hV hI hF
      obtain ⟨r105, j105⟩ : PredT.At 0 (.bool true) (b9.tmps[105]?.getD undef) X ph := hV 56 _ 105 rfl rfl (Pred.waits_near (by kernel_rfl) (by kernel_rfl))
      exact Pred.yields_run (v := .bool true) (Pred.wanted_none rfl) (by go_simp) ⟨Below.refl _ _, rfl, Nat.zero_le _⟩
    · intro b9 X ph hE hd hn hS hV hI hF
      have r2 : b9.tmps[2]?.getD undef = .pointer (some ⟨b, 0, none⟩) := (hn 2 (by kernel_rfl)).trans rfl
      obtain ⟨r106, j106⟩ : PredT.At 0 (.bool true) (b9.tmps[106]?.getD undef) X ph := hV 57 _ 106 rfl rfl (Pred.waits_near (by kernel_rfl) (by kernel_rfl))
      exact Pred.yields_run (v := .pointer (some ⟨b, 0, none⟩)) ((Pred.wanted_at (g := 57) (d := 106) (f := true) rfl rfl r106).trans rfl) (by go_simp) ⟨Below.refl _ _, rfl, Nat.zero_le _⟩
    · intro b9 X ph hE hd hn hS hV hI hF
      obtain ⟨r107, j107⟩ : PredT.At 0 (.pointer (some ⟨b, 0, none⟩)) (b9.tmps[107]?.getD undef) X ph := hV 58 _ 107 rfl rfl (Pred.waits_near (by kernel_rfl) (by kernel_rfl))
      obtain ⟨r106, j106⟩ : PredT.At 0 (.bool true) (b9.tmps[106]?.getD undef) X ph := hV 57 _ 106 rfl rfl (Pred.waits_near (by kernel_rfl) (by kernel_rfl))
      refine Pred.yields_call (f := 22) (args := #[.pointer (some ⟨b, 0, none⟩)]) ((Pred.wanted_at (g := 57) (d := 106) (f := true) rfl rfl r106).trans rfl) (by go_simp) ?_
      refine (Texture_any X (hP5.below hE)).mono ?_
      rintro e w9 ⟨⟨u2, rfl, ho2⟩, hb⟩
      rw [← HQ.out] at ho2
      have hq0 := HQ1.out
      obtain ⟨g2, cap2, rfl, -, -, -, -, -⟩ := owns_pos ho2 (by omega)
      exact ⟨_, rfl, hb, Nat.zero_le _, fun _ => ⟨g2, cap2, rfl, Reads.of_owns ho2⟩⟩
    · intro b9 X ph hE hd hn hS hV hI hF
      have r1 : b9.tmps[1]?.getD undef = .pointer (some ⟨w1.heap.size, 0, none⟩) := (hn 1 (by kernel_rfl)).trans rfl
      obtain ⟨r106, j106⟩ : PredT.At 0 (.bool true) (b9.tmps[106]?.getD undef) X ph := hV 57 _ 106 rfl rfl (Pred.waits_near (by kernel_rfl) (by kernel_rfl))
      have hTX := (blk_below hE _ (blk_lt hT5)).trans hT5
      exact Pred.yields_run (v := .agg #[.int .i64 D, .bool true, .slice (some ⟨g, 0, none⟩) q cap]) ((Pred.wanted_at (g := 57) (d := 106) (f := true) rfl rfl r106).trans rfl) (by go_simp) ⟨Below.refl _ _, rfl, Nat.zero_le _⟩
    · intro b9 X ph hE hd hn hS hV hI hF
      obtain ⟨j108, r108⟩ : PredT.When 0 (fun u y => ∃ g2 cap2, u = .agg #[.int .i64 D, .bool true, .slice (some ⟨g2, 0, none⟩) q cap2] ∧ Reads y 4 (some ⟨g2, 0, none⟩) q (cp ts)) (b9.tmps[108]?.getD undef) X ph := hV 59 _ 108 rfl rfl (Pred.waits_near (by kernel_rfl) (by kernel_rfl))
      obtain ⟨r109, j109⟩ : PredT.At 0 (.agg #[.int .i64 D, .bool true, .slice (some ⟨g, 0, none⟩) q cap]) (b9.tmps[109]?.getD undef) X ph := hV 60 _ 109 rfl rfl (Pred.waits_near (by kernel_rfl) (by kernel_rfl))
      obtain ⟨r106, j106⟩ : PredT.At 0 (.bool true) (b9.tmps[106]?.getD undef) X ph := hV 57 _ 106 rfl rfl (Pred.waits_near (by kernel_rfl) (by kernel_rfl))
      obtain ⟨g2, cap2, hv, hr2⟩ := r108 (by have := PredT.sel_le hS; simp at this; omega)
      have rde : b9.tmps[108]?.getD undef = .agg #[.int .i64 D, .bool true, .slice (some ⟨g2, 0, none⟩) q cap2] := hv
      clear hv
      refine Pred.yields_call (f := 21) (args := #[.agg #[.int .i64 D, .bool true, .slice (some ⟨g2, 0, none⟩) q cap2], .agg #[.int .i64 D, .bool true, .slice (some ⟨g, 0, none⟩) q cap]]) ((Pred.wanted_at (g := 57) (d := 106) (f := true) rfl rfl r106).trans rfl) (by go_simp) ?_
      refine (tex_same D true ⟨g2, 0, none⟩ ⟨g, 0, none⟩ q cap2 cap ts X hr2 (hR5.below hE (Nat.le_refl _)) (by have := HQ1.out; omega) hD3).mono ?_
      rintro e w9 ⟨rfl, hb⟩
      exact ⟨_, rfl, hb, rfl, Nat.zero_le _⟩
    · intro b9 X ph hE hd hn hS hV hI hF
      obtain ⟨r106, j106⟩ : PredT.At 0 (.bool true) (b9.tmps[106]?.getD undef) X ph := hV 57 _ 106 rfl rfl (Pred.waits_near (by kernel_rfl) (by kernel_rfl))
      obtain ⟨r110, j110⟩ : PredT.At 0 (.bool true) (b9.tmps[110]?.getD undef) X ph := hV 61 _ 110 rfl rfl (Pred.waits_near (by kernel_rfl) (by kernel_rfl))
      exact Pred.yields_run (v := .bool true) (Pred.wanted_none rfl) (by go_simp) ⟨Below.refl _ _, rfl, Nat.zero_le _⟩
    · intro b9 X ph hE hd hn hS hV hI hF
      obtain ⟨r111, j111⟩ : PredT.At 0 (.bool true) (b9.tmps[111]?.getD undef) X ph := hV 62 _ 111 rfl rfl (Pred.waits_near (by kernel_rfl) (by kernel_rfl))
      exact Pred.yields_run (v := .bool true) (Pred.wanted_none rfl) (by go_simp) ⟨Below.refl _ _, rfl, Nat.zero_le _⟩
    · intro b9 X ph hE hd hn hS hV hI hF
      have r10 : b9.tmps[10]?.getD undef = .pointer none := (hn 10 (by kernel_rfl)).trans rfl
      obtain ⟨r112, j112⟩ : PredT.At 0 (.bool true) (b9.tmps[112]?.getD undef) X ph := hV 63 _ 112 rfl rfl (Pred.waits_near (by kernel_rfl) (by kernel_rfl))
      exact Pred.yields_run (v := .pointer none) ((Pred.wanted_at (g := 63) (d := 112) (f := true) rfl rfl r112).trans rfl) (by go_simp) ⟨Below.refl _ _, rfl, Nat.zero_le _⟩
    · intro b9 X ph hE hd hn hS hV hI hF
      obtain ⟨r113, j113⟩ : PredT.At 0 (.pointer none) (b9.tmps[113]?.getD undef) X ph := hV 64 _ 113 rfl rfl (Pred.waits_near (by kernel_rfl) (by kernel_rfl))
      obtain ⟨r112, j112⟩ : PredT.At 0 (.bool true) (b9.tmps[112]?.getD undef) X ph := hV 63 _ 112 rfl rfl (Pred.waits_near (by kernel_rfl) (by kernel_rfl))
      refine Pred.yields_call (f := 23) (args := #[.pointer none]) ((Pred.wanted_at (g := 63) (d := 112) (f := true) rfl rfl r112).trans rfl) (by go_simp) ?_
      refine (Depth_nil X).mono ?_
      rintro e _ ⟨rfl, rfl⟩
      exact ⟨_, rfl, Below.refl _ _, rfl, Nat.zero_le _⟩
    · intro b9 X ph hE hd hn hS hV hI hF
      obtain ⟨r114, j114⟩ : PredT.At 0 (.int .i64 0) (b9.tmps[114]?.getD undef) X ph := hV 65 _ 114 rfl rfl (Pred.waits_near (by kernel_rfl) (by kernel_rfl))
      obtain ⟨r112, j112⟩ : PredT.At 0 (.bool true) (b9.tmps[112]?.getD undef) X ph := hV 63 _ 112 rfl rfl (Pred.waits_near (by kernel_rfl) (by kernel_rfl))
      exact Pred.yields_run (v := .bool true) ((Pred.wanted_at (g := 63) (d := 112) (f := true) rfl rfl r112).trans rfl) (by go_simp) ⟨Below.refl _ _, rfl, Nat.zero_le _⟩
    · intro b9 X ph hE hd hn hS hV hI hF
      obtain ⟨r112, j112⟩ : PredT.At 0 (.bool true) (b9.tmps[112]?.getD undef) X ph := hV 63 _ 112 rfl rfl (Pred.waits_near (by kernel_rfl) (by kernel_rfl))
      obtain ⟨r115, j115⟩ : PredT.At 0 (.bool true) (b9.tmps[115]?.getD undef) X ph := hV 66 _ 115 rfl rfl (Pred.waits_near (by kernel_rfl) (by kernel_rfl))
      exact Pred.yields_run (v := .bool true) (Pred.wanted_none rfl) (by go_simp) ⟨Below.refl _ _, rfl, Nat.zero_le _⟩
    · intro b9 X ph hE hd hn hS hV hI hF
      obtain ⟨r116, j116⟩ : PredT.At 0 (.bool true) (b9.tmps[116]?.getD undef) X ph := hV 67 _ 116 rfl rfl (Pred.waits_near (by kernel_rfl) (by kernel_rfl))
      exact Pred.yields_run (v := .bool true) (Pred.wanted_none rfl) (by go_simp) ⟨Below.refl _ _, rfl, Nat.zero_le _⟩
    · intro b9 X ph hE hd hn hS hV hI hF
      have r10 : b9.tmps[10]?.getD undef = .pointer none := (hn 10 (by kernel_rfl)).trans rfl
      obtain ⟨r117, j117⟩ : PredT.At 0 (.bool true) (b9.tmps[117]?.getD undef) X ph := hV 68 _ 117 rfl rfl (Pred.waits_near (by kernel_rfl) (by kernel_rfl))
      exact Pred.yields_run (v := .pointer none) ((Pred.wanted_at (g := 68) (d := 117) (f := true) rfl rfl r117).trans rfl) (by go_simp) ⟨Below.refl _ _, rfl, Nat.zero_le _⟩
    · intro b9 X ph hE hd hn hS hV hI hF
      obtain ⟨r118, j118⟩ : PredT.At 0 (.pointer none) (b9.tmps[118]?.getD undef) X ph := hV 69 _ 118 rfl rfl (Pred.waits_near (by kernel_rfl) (by kernel_rfl))
      obtain ⟨r117, j117⟩ : PredT.At 0 (.bool true) (b9.tmps[117]?.getD undef) X ph := hV 68 _ 117 rfl rfl (Pred.waits_near (by kernel_rfl) (by kernel_rfl))
      refine Pred.yields_call (f := 19) (args := #[.pointer none, .int .i64 0]) ((Pred.wanted_at (g := 68) (d := 117) (f := true) rfl rfl r117).trans rfl) (by go_simp) ?_
      refine (Size_nil 0 X).mono ?_
      rintro e _ ⟨rfl, rfl⟩
      exact ⟨_, rfl, Below.refl _ _, rfl, Nat.zero_le _⟩
    · intro b9 X ph hE hd hn hS hV hI hF
      obtain ⟨r119, j119⟩ : PredT.At 0 (.int .i64 0) (b9.tmps[119]?.getD undef) X ph := hV 70 _ 119 rfl rfl (Pred.waits_near (by kernel_rfl) (by kernel_rfl))
      obtain ⟨r117, j117⟩ : PredT.At 0 (.bool true) (b9.tmps[117]?.getD undef) X ph := hV 68 _ 117 rfl rfl (Pred.waits_near (by kernel_rfl) (by kernel_rfl))
      exact Pred.yields_run (v := .bool true) ((Pred.wanted_at (g := 68) (d := 117) (f := true) rfl rfl r117).trans rfl) (by go_simp) ⟨Below.refl _ _, rfl, Nat.zero_le _⟩
    · intro b9 X ph hE hd hn hS hV hI hF
      obtain ⟨r117, j117⟩ : PredT.At 0 (.bool true) (b9.tmps[117]?.getD undef) X ph := hV 68 _ 117 rfl rfl (Pred.waits_near (by kernel_rfl) (by kernel_rfl))
      obtain ⟨r120, j120⟩ : PredT.At 0 (.bool true) (b9.tmps[120]?.getD undef) X ph := hV 71 _ 120 rfl rfl (Pred.waits_near (by kernel_rfl) (by kernel_rfl))
      exact Pred.yields_run (v := .bool true) (Pred.wanted_none rfl) (by go_simp) ⟨Below.refl _ _, rfl, Nat.zero_le _⟩
    · intro b9 X ph hE hd hn hS hV hI hF
      obtain ⟨r121, j121⟩ : PredT.At 0 (.bool true) (b9.tmps[121]?.getD undef) X ph := hV 72 _ 121 rfl rfl (Pred.waits_near (by kernel_rfl) (by kernel_rfl))
      exact Pred.yields_run (v := .bool true) (Pred.wanted_none rfl) (by go_simp) ⟨Below.refl _ _, rfl, Nat.zero_le _⟩
    · intro b9 X ph hE hd hn hS hV hI hF
      have r1 : b9.tmps[1]?.getD undef = .pointer (some ⟨w1.heap.size, 0, none⟩) := (hn 1 (by kernel_rfl)).trans rfl
      obtain ⟨r122, j122⟩ : PredT.At 0 (.bool true) (b9.tmps[122]?.getD undef) X ph := hV 73 _ 122 rfl rfl (Pred.waits_near (by kernel_rfl) (by kernel_rfl))
      have hTX := (blk_below hE _ (blk_lt hT5)).trans hT5
      exact Pred.yields_run (v := .agg #[.int .i64 D, .bool true, .slice (some ⟨g, 0, none⟩) q cap]) ((Pred.wanted_at (g := 73) (d := 122) (f := true) rfl rfl r122).trans rfl) (by go_simp) ⟨Below.refl _ _, rfl, Nat.zero_le _⟩
    · intro b9 X ph hE hd hn hS hV hI hF
      obtain ⟨r123, j123⟩ : PredT.At 0 (.agg #[.int .i64 D, .bool true, .slice (some ⟨g, 0, none⟩) q cap]) (b9.tmps[123]?.getD undef) X ph := hV 74 _ 123 rfl rfl (Pred.waits_near (by kernel_rfl) (by kernel_rfl))
      obtain ⟨r122, j122⟩ : PredT.At 0 (.bool true) (b9.tmps[122]?.getD undef) X ph := hV 73 _ 122 rfl rfl (Pred.waits_near (by kernel_rfl) (by kernel_rfl))
      refine Pred.yields_call (f := 14) (args := #[.agg #[.int .i64 D, .bool true, .slice (some ⟨g, 0, none⟩) q cap]]) ((Pred.wanted_at (g := 73) (d := 122) (f := true) rfl rfl r122).trans rfl) (by go_simp) ?_
      refine (CMy.out X).mono ?_
      rintro e w9 ⟨rfl, hb⟩
      exact ⟨_, rfl, hb, rfl, Nat.zero_le _⟩
    · intro b9 X ph hE hd hn hS hV hI hF
      obtain ⟨r122, j122⟩ : PredT.At 0 (.bool true) (b9.tmps[122]?.getD undef) X ph := hV 73 _ 122 rfl rfl (Pred.waits_near (by kernel_rfl) (by kernel_rfl))
      obtain ⟨r124, j124⟩ : PredT.At 0 (.bool true) (b9.tmps[124]?.getD undef) X ph := hV 75 _ 124 rfl rfl (Pred.waits_near (by kernel_rfl) (by kernel_rfl))
      exact Pred.yields_run (v := .bool true) (Pred.wanted_none rfl) (by go_simp) ⟨Below.refl _ _, rfl, Nat.zero_le _⟩
    · intro b9 X ph hE hd hn hS hV hI hF
      obtain ⟨r125, j125⟩ : PredT.At 0 (.bool true) (b9.tmps[125]?.getD undef) X ph := hV 76 _ 125 rfl rfl (Pred.waits_near (by kernel_rfl) (by kernel_rfl))
      exact Pred.yields_run (v := .bool true) (Pred.wanted_none rfl) (by go_simp) ⟨Below.refl _ _, rfl, Nat.zero_le _⟩
  · trivial
  intro v X hE hS hv
  replace hS : (fun _ => True) X := hS
  have e0 : v 0 = .int .i64 1 := (hv 0 _ 49 rfl rfl).1
  have e1 : v 1 = .bool true := (hv 1 _ 50 rfl rfl).1
  have e2 : v 2 = .bool true := (hv 2 _ 51 rfl rfl).1
  have e3 : v 3 = .pointer (some ⟨b, 0, none⟩) := (hv 3 _ 52 rfl rfl).1
  have e4 : v 4 = .int .i64 8 := (hv 4 _ 53 rfl rfl).1
  have e5 : v 5 = .bool true := (hv 5 _ 54 rfl rfl).1
  have e6 : v 6 = .bool true := (hv 6 _ 55 rfl rfl).1
  have e7 : v 7 = .bool true := (hv 7 _ 56 rfl rfl).1
  have e8 : v 8 = .pointer (some ⟨b, 0, none⟩) := (hv 8 _ 57 rfl rfl).1
  have e9 : v 9 = .int .i64 4 := (hv 9 _ 58 rfl rfl).1
  have e10 : v 10 = .bool true := (hv 10 _ 59 rfl rfl).1
  have e11 : v 11 = .bool true := (hv 11 _ 60 rfl rfl).1
  have e12 : v 12 = .bool true := (hv 12 _ 61 rfl rfl).1
  have e13 : v 13 = .pointer (some ⟨b, 0, none⟩) := (hv 13 _ 62 rfl rfl).1
  have e14 : v 14 = .int .i64 0 := (hv 14 _ 63 rfl rfl).1
  have e15 : v 15 = .bool true := (hv 15 _ 64 rfl rfl).1
  have e16 : v 16 = .bool true := (hv 16 _ 65 rfl rfl).1
  have e17 : v 17 = .bool true := (hv 17 _ 66 rfl rfl).1
  have e18 : v 18 = .pointer (some ⟨b, 0, none⟩) := (hv 18 _ 67 rfl rfl).1
  have e19 : v 19 = p7.v := (hv 19 _ 68 rfl rfl).1
  have e20 : v 20 = .pointer (some ⟨b, 0, none⟩) := (hv 20 _ 69 rfl rfl).1
  have e21 : v 21 = p7.v := (hv 21 _ 70 rfl rfl).1
  have e22 : v 22 = .bool true := (hv 22 _ 71 rfl rfl).1
  have e23 : v 23 = .bool true := (hv 23 _ 72 rfl rfl).1
  have e24 : v 24 = .bool true := (hv 24 _ 73 rfl rfl).1
  have e25 : v 25 = .pointer (some ⟨b, 0, none⟩) := (hv 25 _ 74 rfl rfl).1
  have e26 : v 26 = (mean a0 a1 a2 a3).v := (hv 26 _ 75 rfl rfl).1
  have e27 : v 27 = .pointer (some ⟨b, 0, none⟩) := (hv 27 _ 76 rfl rfl).1
  have e28 : v 28 = a0.v := (hv 28 _ 77 rfl rfl).1
  have e29 : v 29 = .pointer (some ⟨b, 0, none⟩) := (hv 29 _ 78 rfl rfl).1
  have e30 : v 30 = a1.v := (hv 30 _ 79 rfl rfl).1
  have e31 : v 31 = .pointer (some ⟨b, 0, none⟩) := (hv 31 _ 80 rfl rfl).1
  have e32 : v 32 = a2.v := (hv 32 _ 81 rfl rfl).1
  have e33 : v 33 = .pointer (some ⟨b, 0, none⟩) := (hv 33 _ 82 rfl rfl).1
  have e34 : v 34 = a3.v := (hv 34 _ 83 rfl rfl).1
  have e35 : v 35 = (mean a0 a1 a2 a3).v := (hv 35 _ 84 rfl rfl).1
  have e36 : v 36 = .bool true := (hv 36 _ 85 rfl rfl).1
  have e37 : v 37 = .bool true := (hv 37 _ 86 rfl rfl).1
  have e38 : v 38 = .bool true := (hv 38 _ 87 rfl rfl).1
  have e39 : v 39 = .pointer (some ⟨b2, 0, none⟩) := (hv 39 _ 88 rfl rfl).1
  have e40 : v 40 = nine.v := (hv 40 _ 89 rfl rfl).1
  have e41 : v 41 = nine.v := (hv 41 _ 90 rfl rfl).1
  have e42 : v 42 = .bool true := (hv 42 _ 91 rfl rfl).1
  have e43 : v 43 = .bool true := (hv 43 _ 92 rfl rfl).1
  have e44 : v 44 = .bool true := (hv 44 _ 93 rfl rfl).1
  have e45 : v 45 = .int .i64 1 := (hv 45 _ 94 rfl rfl).1
  have e46 : v 46 = .bool true := (hv 46 _ 95 rfl rfl).1
  have e47 : v 47 = .bool true := (hv 47 _ 96 rfl rfl).1
  have e48 : v 48 = .bool true := (hv 48 _ 97 rfl rfl).1
  have e49 : v 49 = .pointer (some ⟨b, 0, none⟩) := (hv 49 _ 98 rfl rfl).1
  have e50 : v 50 = .int .i64 1 := (hv 50 _ 99 rfl rfl).1
  have e51 : v 51 = .bool true := (hv 51 _ 100 rfl rfl).1
  have e52 : v 52 = .bool true := (hv 52 _ 101 rfl rfl).1
  have e53 : v 53 = .bool true := (hv 53 _ 102 rfl rfl).1
  have e54 : v 54 = .pointer (some ⟨b, 0, none⟩) := (hv 54 _ 103 rfl rfl).1
  have e55 : v 55 = .bool true := (hv 55 _ 104 rfl rfl).1
  have e56 : v 56 = .bool true := (hv 56 _ 105 rfl rfl).1
  have e57 : v 57 = .bool true := (hv 57 _ 106 rfl rfl).1
  have e58 : v 58 = .pointer (some ⟨b, 0, none⟩) := (hv 58 _ 107 rfl rfl).1
  generalize hg59 : v 59 = vv59
  have e60 : v 60 = .agg #[.int .i64 D, .bool true, .slice (some ⟨g, 0, none⟩) q cap] := (hv 60 _ 109 rfl rfl).1
  have e61 : v 61 = .bool true := (hv 61 _ 110 rfl rfl).1
  have e62 : v 62 = .bool true := (hv 62 _ 111 rfl rfl).1
  have e63 : v 63 = .bool true := (hv 63 _ 112 rfl rfl).1
  have e64 : v 64 = .pointer none := (hv 64 _ 113 rfl rfl).1
  have e65 : v 65 = .int .i64 0 := (hv 65 _ 114 rfl rfl).1
  have e66 : v 66 = .bool true := (hv 66 _ 115 rfl rfl).1
  have e67 : v 67 = .bool true := (hv 67 _ 116 rfl rfl).1
  have e68 : v 68 = .bool true := (hv 68 _ 117 rfl rfl).1
  have e69 : v 69 = .pointer none := (hv 69 _ 118 rfl rfl).1
  have e70 : v 70 = .int .i64 0 := (hv 70 _ 119 rfl rfl).1
  have e71 : v 71 = .bool true := (hv 71 _ 120 rfl rfl).1
  have e72 : v 72 = .bool true := (hv 72 _ 121 rfl rfl).1
  have e73 : v 73 = .bool true := (hv 73 _ 122 rfl rfl).1
  have e74 : v 74 = .agg #[.int .i64 D, .bool true, .slice (some ⟨g, 0, none⟩) q cap] := (hv 74 _ 123 rfl rfl).1
  have e75 : v 75 = .bool true := (hv 75 _ 124 rfl rfl).1
  have e76 : v 76 = .bool true := (hv 76 _ 125 rfl rfl).1
  have e77 : v 77 = .bool true := (hv 77 _ 0 rfl rfl).1
  simp only [Pred.putsF_cons, Pred.putsF_nil, Nat.zero_add, Nat.reduceAdd, e0, e1, e2, e3, e4, e5, e6, e7, e8, e9, e10, e11, e12, e13, e14, e15, e16, e17, e18, e19, e20, e21, e22, e23, e24, e25, e26, e27, e28, e29, e30, e31, e32, e33, e34, e35, e36, e37, e38, e39, e40, e41, e42, e43, e44, e45, e46, e47, e48, e49, e50, e51, e52, e53, e54, e55, e56, e57, e58, hg59, e60, e61, e62, e63, e64, e65, e66, e67, e68, e69, e70, e71, e72, e73, e74, e75, e76, e77, Act.put, List.setIfInBounds_toArray, List.set_cons_zero, List.set_cons_succ]
  clear e0 e1 e2 e3 e4 e5 e6 e7 e8 e9 e10 e11 e12 e13 e14 e15 e16 e17 e18 e19 e20 e21 e22 e23 e24 e25 e26 e27 e28 e29 e30 e31 e32 e33 e34 e35 e36 e37 e38 e39 e40 e41 e42 e43 e44 e45 e46 e47 e48 e49 e50 e51 e52 e53 e54 e55 e56 e57 e58 hg59 e60 e61 e62 e63 e64 e65 e66 e67 e68 e69 e70 e71 e72 e73 e74 e75 e76 e77 hv
  have L9 : Below w.heap.size w X := L5.trans (hE.mono L5.size)
  clear hE hP5 hW5 hT5 hR5
  go_wp2
  go_ret
  exact ⟨rfl, L9⟩
end Go.Proofs.Ytdjiblgnealmkaa.MpU
