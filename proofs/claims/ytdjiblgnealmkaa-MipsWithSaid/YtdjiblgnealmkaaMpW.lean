/-
  The law of package mips: other texels are there, and nowhere else.
-/
import Derived.Test.YtdjiblgnealmkaaMpV
import Derived.Deep.CutRange
namespace Go.Proofs.Ytdjiblgnealmkaa.MpW
open Go.RowKit Rd Go.Proofs.Ytdjiblgnealmkaa.Row Mid DkM HueA MpM MpA MpB MpC MpD MpE MpF MpG
open MpP (at17 round17)
open MpQ MpS MpT MpU
open Ints (i64s In64)
set_option linter.unusedVariables false
set_option linter.unusedSimpArgs false
set_option maxRecDepth 10000
/-- does the texel cover one of them? -/
def inN (l x X W : Nat) : Prop := x * 2 ^ l < X + W ∧ X < (x + 1) * 2 ^ l
theorem inN_up {l x X W a : Nat} (ha : a ≤ 1) (h : inN l (2 * x + a) X W) : inN (l + 1) x X W := by
  obtain ⟨h1, h2⟩ := h
  unfold inN
  rw [Nat.pow_succ]
  have e1 : x * (2 ^ l * 2) = (2 * x) * 2 ^ l := by rw [Nat.mul_comm (2 ^ l) 2, ← Nat.mul_assoc, Nat.mul_comm x 2]
  have e2 : (x + 1) * (2 ^ l * 2) = (2 * x + 2) * 2 ^ l := by rw [Nat.mul_comm (2 ^ l) 2, ← Nat.mul_assoc, Nat.add_mul]; congr 1; omega
  rw [e1, e2]
  have e3 : (2 * x) * 2 ^ l ≤ (2 * x + a) * 2 ^ l := Nat.mul_le_mul_right _ (by omega)
  have e4 : (2 * x + a + 1) * 2 ^ l ≤ (2 * x + 2) * 2 ^ l := Nat.mul_le_mul_right _ (by omega)
  omega
def in2 (l x y X Y W H : Nat) : Prop := inN l x X W ∧ inN l y Y H
instance (l x X W : Nat) : Decidable (inN l x X W) := by unfold inN; infer_instance
instance (l x y X Y W H : Nat) : Decidable (in2 l x y X Y W H) := by unfold in2; infer_instance
theorem lev_put {ts cs : List Px} {D X Y W H : Nat} : ∀ (l x y : Nat), l ≤ D → x < sd (D - l) → y < sd (D - l) → ¬ in2 l x y X Y W H →
    at_ (lev (put ts (sd D) X Y W cs H) D l) (sd (D - l) * y + x) = at_ (lev ts D l) (sd (D - l) * y + x)
  | 0, x, y, hl, hx, hy, hn => by
    show at_ (put ts (sd D) X Y W cs H) _ = at_ ts _
    rw [Nat.sub_zero] at hx hy ⊢
    have hlt : sd D * y + x < sd D * sd D := by
      have := Nat.mul_le_mul_left (sd D) (show y + 1 ≤ sd D by omega)
      rw [Nat.mul_add] at this
      omega
    have h1 : (sd D * y + x) % sd D = x := by rw [Nat.mul_add_mod, Nat.mod_eq_of_lt hx]
    have h2 : (sd D * y + x) / sd D = y := by rw [Nat.mul_add_div (by omega), Nat.div_eq_of_lt hx, Nat.add_zero]
    rw [put_at _ _ hlt, h1, h2, if_neg]
    intro h
    apply hn
    unfold in2 inN
    rw [Nat.pow_zero, Nat.mul_one, Nat.mul_one, Nat.mul_one, Nat.mul_one]
    omega
  | l + 1, x, y, hl, hx, hy, hn => by
    have e : sd (D - l) = 2 * sd (D - (l + 1)) := by rw [← sd_succ]; congr 1; omega
    have key : ∀ a b, a ≤ 1 → b ≤ 1 → at_ (lev (put ts (sd D) X Y W cs H) D l) (sd (D - l) * (2 * y + b) + (2 * x + a)) = at_ (lev ts D l) (sd (D - l) * (2 * y + b) + (2 * x + a)) := fun a b ha hb =>
      lev_put l (2 * x + a) (2 * y + b) (by omega) (by omega) (by omega) (fun h => hn ⟨inN_up ha h.1, inN_up hb h.2⟩)
    rw [lev_xy (by omega) hx hy, lev_xy (by omega) hx hy]
    have k00 := key 0 0 (by omega) (by omega)
    have k10 := key 1 0 (by omega) (by omega)
    have k01 := key 0 1 (by omega) (by omega)
    have k11 := key 1 1 (by omega) (by omega)
    simp only [Nat.add_zero] at k00 k10 k01
    rw [k00, k10, k01, k11]
theorem atP_out {ts cs : List Px} {D X Y W H l x y : Nat} {wr : Bool} (hl : l ≤ D) (hx : x < sd (D - l)) (hy : y < sd (D - l)) (hn : ¬ in2 l x y X Y W H) :
    atP (put ts (sd D) X Y W cs H) D wr l x y = atP ts D wr l x y := by
  rw [atP_nat hl hx hy, atP_nat hl hx hy, lev_put l x y hl hx hy hn]
theorem atP_put {ts cs : List Px} {D X Y W H x y : Nat} {wr : Bool} (hx : x < sd D) (hy : y < sd D) (hn : in2 0 x y X Y W H) :
    atP (put ts (sd D) X Y W cs H) D wr 0 x y = at_ cs (W * (y - Y) + (x - X)) := by
  have h := atP_nat (ps := put ts (sd D) X Y W cs H) (D := D) (wr := wr) (l := 0) (by omega) (show x < sd (D - 0) from hx) (show y < sd (D - 0) from hy)
  refine Eq.trans h ?_
  show at_ (put ts (sd D) X Y W cs H) (sd D * y + x) = _
  have hlt : sd D * y + x < sd D * sd D := by
    have := Nat.mul_le_mul_left (sd D) (show y + 1 ≤ sd D by omega)
    rw [Nat.mul_add] at this
    omega
  have h1 : (sd D * y + x) % sd D = x := by rw [Nat.mul_add_mod, Nat.mod_eq_of_lt hx]
  have h2 : (sd D * y + x) / sd D = y := by rw [Nat.mul_add_div (by omega), Nat.div_eq_of_lt hx, Nat.add_zero]
  obtain ⟨⟨a1, a2⟩, a3, a4⟩ := hn
  rw [Nat.pow_zero, Nat.mul_one] at a1 a2 a3 a4
  rw [put_at _ _ hlt, h1, h2, if_pos (by omega)]
attribute [local go_sem ↓] load_tex store_tex load_col store_col alloc_col load_stp store_stp alloc_stp
attribute [local go_sem] eq_px px_self Px.c_size Px.c_all c_all4 fold_px run_load_tex run_store_tex run_load_stp run_store_stp run_alloc_stp stp0_size run_alloc_col run_store_col rowStore_eq rowLoad_eq one_int one_bool one_sl blk_alloc_at blk_alloc_old blk_drew blk_drewN blk_grow setRow_alloc_at setRow_alloc_old setRow_drew setRow_drewN
set_option maxHeartbeats 8000000 in
theorem MipsWith_walk (a0 : Int) (a1 : Bool) (a2 : Option Addr) (len2 cap2 : Nat) (x2 : List (List Value)) (a3_0 : Int) (a3_1 : Int) (a3_2 : Int) (a3_3 : Int) (w : World) (w0 : (Lit.int .i64 a0).wf = true) (w2 : Flat.IsRows [some .i64] w a2 len2 cap2 x2) (w3_0 : (Lit.int .i64 a3_0).wf = true) (w3_1 : (Lit.int .i64 a3_1).wf = true) (w3_2 : (Lit.int .i64 a3_2).wf = true) (w3_3 : (Lit.int .i64 a3_3).wf = true) :
    Calls Try.prog 5 #[.int .i64 a0, .bool a1, .slice a2 len2 cap2, .agg #[.int .i64 a3_0, .int .i64 a3_1, .int .i64 a3_2, .int .i64 a3_3]] w fun e w' => e = .returned (.bool true) ∧ Below w.heap.size w w' := by
  obtain ⟨zs, hzl, hz, hR, hlc, hcm, -⟩ := Ints.rows_row (s := 1) (by omega) w2
  obtain ⟨d1, d2⟩ := bounds_i64 w0
  have i0 : In64 a3_0 := bounds_i64 w3_0
  have i1 : In64 a3_1 := bounds_i64 w3_1
  have i2 : In64 a3_2 := bounds_i64 w3_2
  have i3 : In64 a3_3 := bounds_i64 w3_3
  clear w0 w2 w3_0 w3_1 w3_2 w3_3
  have hlen9 : len2 ≤ 9223372036854775807 := by have : maxLen = 9223372036854775807 := rfl; omega
  by_cases hb1 : 50 < len2
  · have hb1' : (50 : Int) < (len2 : Int) := by omega
    clear hR hzl
    go_enter Try.func5, Try.ntmps5
    go_wp2_with (go_at_call 10; refine (awake_any _).mono ?_; rintro e w3 ⟨rfl, hb⟩; have hs := hb.size; simp only [World.size_alloc] at hs)
    go_ret
    exact ⟨rfl, by repeat' (first | (with_reducible exact Below.refl _ _) | (with_reducible refine Rd.below_step ?_ (by assumption)) | (with_reducible refine Rd.below_alloc ?_ _) | (with_reducible refine Rd.below_drewN ?_ _) | (with_reducible refine Below.drew ?_) | (with_reducible refine Below.setCell ?_ ?_ _) | (with_reducible refine Rd.below_setRow ?_ ?_ _) | go_size | (simp only [World.size_alloc]; omega) | omega)⟩
  have hb1' : ¬ (50 : Int) < (len2 : Int) := by omega
  clear hzl
  have hB0 := (Below.refl w.heap.size w).alloc (Nat.le_refl _) (.cells #[.int .i64 a3_0, .int .i64 a3_1, .int .i64 a3_2, .int .i64 a3_3] 52)
  have hA0 : blk (w.alloc (.cells #[.int .i64 a3_0, .int .i64 a3_1, .int .i64 a3_2, .int .i64 a3_3] 52)) w.heap.size = some (.cells #[.int .i64 a3_0, .int .i64 a3_1, .int .i64 a3_2, .int .i64 a3_3] 52 (0, 0)) := blk_alloc_at _ _ _ rfl
  have hRa := hR.below hB0 (Nat.le_refl _)
  go_enter Try.func5, Try.ntmps5
  go_wp2_with fail
  refine (Paint_any a0 a1 a2 len2 cap2 zs _ d1 d2 hRa hz (by omega)).mono ?_
  rintro e w1 ⟨⟨D, u, ts, -, hD3, rfl, hts, hRB, hou⟩, hb1⟩
  have L1 : Below w.heap.size w w1 := hB0.trans (hb1.mono (by simp))
  have hA1 := bd_keep hA0 hb1
  clear hb1 hA0 hB0 hRa hR
  obtain ⟨q, hq⟩ : ∃ q, q = sd D * sd D := ⟨_, rfl⟩
  have hq0 : 0 < q := by rw [hq]; exact Nat.mul_pos (by have := sd_pos D; omega) (by have := sd_pos D; omega)
  rw [← hq] at hou hts
  obtain ⟨g, cap, rfl, hg0, hg1, hgc, hgm, -⟩ := owns_pos hou hq0
  have HQ := Lib.hid hq
  have hq9 : q ≤ 1024 := by rw [hq]; exact sq_le (sd_le hD3)
  clear hq
  have hTB : blk (w1.alloc (.cells #[.int .i64 D, .bool a1, .slice (some ⟨g, 0, none⟩) q cap] 24)) w1.heap.size = some (.cells #[.int .i64 D, .bool a1, .slice (some ⟨g, 0, none⟩) q cap] 24 (0, 0)) := blk_alloc_at _ _ _ rfl
  have hB1 := (Below.refl w1.heap.size w1).alloc (Nat.le_refl _) (.cells #[.int .i64 D, .bool a1, .slice (some ⟨g, 0, none⟩) q cap] 24)
  have hRd := (Reads.of_owns hou).below hB1 (Nat.le_refl _)
  have hA2 := bd_keep hA1 hB1
  have hs1 := L1.size
  go_wp2_with fail
  refine (Build_any a1 ⟨g, 0, none⟩ q cap _ hRd hD3 HQ.out hRB).mono ?_
  rintro e w2 ⟨⟨b, rfl, hb2lo, hP⟩, hb2⟩
  have L2 : Below w.heap.size w w2 := by repeat' (first | (with_reducible exact Below.refl _ _) | (with_reducible refine Rd.below_step ?_ (by assumption)) | (with_reducible refine Rd.below_alloc ?_ _) | (with_reducible refine Rd.below_drewN ?_ _) | (with_reducible refine Below.drew ?_) | (with_reducible refine Below.setCell ?_ ?_ _) | (with_reducible refine Rd.below_setRow ?_ ?_ _) | go_size | (simp only [World.size_alloc]; omega) | omega)
  have hT2 := bd_keep hTB hb2
  have hA3 := bd_keep hA2 hb2
  have hR2 := hRd.below hb2 (Nat.le_refl _)
  clear hTB hB1 hRd hou hA1 hA2 hb2 hb2lo L1 hg0 hg1
  have cD : w2.cell? ⟨w1.heap.size, 0, none⟩ = some (.int .i64 D) := by rw [blk_cell hT2]; first | done | rfl
  have ca0 : w2.cell? ⟨w.heap.size, 0, none⟩ = some (.int .i64 a3_0) := by rw [blk_cell hA3]; first | done | rfl
  have ca1 : w2.cell? ⟨w.heap.size, 1, none⟩ = some (.int .i64 a3_1) := by rw [blk_cell hA3]; first | done | rfl
  have ca2 : w2.cell? ⟨w.heap.size, 2, none⟩ = some (.int .i64 a3_2) := by rw [blk_cell hA3]; first | done | rfl
  have ca3 : w2.cell? ⟨w.heap.size, 3, none⟩ = some (.int .i64 a3_3) := by rw [blk_cell hA3]; first | done | rfl
  go_wp2_with fail
  have hB2 := (Below.refl w2.heap.size w2).alloc (Nat.le_refl _) (.cells #[.int .i64 a3_0, .int .i64 a3_1, .int .i64 a3_2, .int .i64 a3_3, .int .i64 3] 3)
  refine (StepOf_4 D _ 5 5 [a3_0, a3_1, a3_2, a3_3, 3] _ hD3 (reads_new w2 _ _ 1 5 rfl) (by intro z hz; simp at hz; rcases hz with rfl | rfl | rfl | rfl | rfl <;> first | assumption | exact ⟨by decide, by decide⟩) (by omega)).mono ?_
  rintro e w3 ⟨⟨X, Y, W, H, u3, cs, rfl, hW1, hH1, hW4, hH4, hXW, hYH, hcl, hcB, ho3⟩, hb3⟩
  have hb23 : Below w2.heap.size w2 w3 := hB2.trans (hb3.mono (by simp))
  have L3 : Below w.heap.size w w3 := L2.trans (hb23.mono L2.size)
  have hT3 := bd_keep hT2 hb23
  have hR3 := hR2.below hb23 (Nat.le_refl _)
  have hP3 := hP.below hb23
  clear hB2 hb3 hb23 hA3 ca0 ca1 ca2 ca3 cD hT2 hR2 hP L2
  obtain ⟨qc, hqc⟩ : ∃ qc, qc = W * H := ⟨_, rfl⟩
  have hqc0 : 0 < qc := by rw [hqc]; exact Nat.mul_pos (by omega) (by omega)
  rw [← hqc] at ho3 hcl
  obtain ⟨g3, cap3, rfl, -, hg3, hgc3, hgm3, -⟩ := owns_pos ho3 hqc0
  have HQC := Lib.hid hqc
  clear hqc
  have hSB : blk (w3.alloc (.cells (stpH X Y W H (.slice (some ⟨g3, 0, none⟩) qc cap3)) 57)) w3.heap.size = some (.cells (stpH X Y W H (.slice (some ⟨g3, 0, none⟩) qc cap3)) 57 (0, 0)) := blk_alloc_at _ _ _ rfl
  have hB3 := (Below.refl w3.heap.size w3).alloc (Nat.le_refl _) (.cells (stpH X Y W H (.slice (some ⟨g3, 0, none⟩) qc cap3)) 57)
  have hR5 := (Reads.of_owns ho3).below hB3 (Nat.le_refl _)
  go_wp2_with fail
  refine (With_any X Y W H g3 0 qc cap3 cs _ (hP3.below hB3) (by omega) (by omega) hW1 hH1 HQC.out hgc3 hR5 hcB).mono ?_
  rintro e w4 ⟨⟨b2, rfl, hb4lo, hW4p⟩, hb4⟩
  have hb34 : Below w3.heap.size w3 w4 := hB3.trans (hb4.mono (by simp))
  have L4 : Below w.heap.size w w4 := L3.trans (hb34.mono L3.size)
  have hT4 := bd_keep hT3 hb34
  have hR4 := hR3.below hb34 (Nat.le_refl _)
  have hP4 := hP3.below hb34
  have hS4 := bd_keep hSB hb4
  have hC4 := hR5.below hb4 (Nat.le_refl _)
  clear hB3 hb34 hb4 hb4lo hT3 hR3 hP3 hSB hR5 ho3 L3 hg3 hgm3
  go_wp2_with fail
  go_loopw [15] (fun i Z => ∃ n : Nat, n ≤ D + 1 ∧ i = .int .i64 n ∧ Hid (Below w4.heap.size w4 Z)) (fun i _ => D + 1 - (intOf i).toNat)
  case atStart => exact ⟨0, by omega, rfl, Lib.hid (Below.refl _ _)⟩
  case round =>
    obtain ⟨n, hn, rfl, HZ1⟩ := hrel
    rename World => Z1
    have cD : Z1.cell? ⟨w1.heap.size, 0, none⟩ = some (.int .i64 D) := by rw [blk_cell (bd_keep hT4 HZ1.out)]; first | done | rfl
    by_cases hnD : n ≤ D
    · have hnD' : (n : Int) ≤ (D : Int) := by omega
      obtain ⟨s, hs⟩ : ∃ s, sd (D - n) = s := ⟨_, rfl⟩
      have hs4 : 4 ≤ s := by rw [← hs]; exact sd_pos _
      have hs32 : s ≤ 32 := by rw [← hs]; exact sd_le (by omega)
      have CS := Lib.hid fun X (hX : Pyr X b D a1 ts) => (hs ▸ szE_in hnD ▸ Size_any (n : Int) X hX : Calls Try.prog 19 #[.pointer (some ⟨b, 0, none⟩), .int .i64 n] X fun e w' => e = .returned (.int .i64 s) ∧ X = w')
      have HS := Lib.hid hs
      have h2n1 : 1 ≤ 2 ^ n := Nat.one_le_two_pow
      have h2n8 : 2 ^ n ≤ 8 := Nat.pow_le_pow_right (by omega) (show n ≤ 3 by omega)
      clear hs
      go_wp2_with fail
      go_loopw [16] (fun i Z => ∃ y : Nat, y ≤ s ∧ i = .int .i64 y ∧ Hid (Below w4.heap.size w4 Z)) (fun i _ => s - (intOf i).toNat)
      case atStart => exact ⟨0, by omega, rfl, HZ1⟩
      case round =>
        obtain ⟨y, hy, rfl, HZ2⟩ := hrel
        rename World => Z2
        clear HZ1
        have CS2 := Lib.hid (CS.out _ (hP4.below HZ2.out))
        by_cases hys : y < s
        · have hys' : (y : Int) < (s : Int) := by omega
          have hy32 : (y : Int) < 32 := by omega
          go_wp2_with (go_at_call 19; refine CS2.out.mono ?_; rintro e _ ⟨rfl, rfl⟩)
          go_loopw [17] (fun i Z => ∃ x : Nat, x ≤ s ∧ i = .int .i64 x ∧ Hid (Below w4.heap.size w4 Z)) (fun i _ => s - (intOf i).toNat)
          case atStart => exact ⟨0, by omega, rfl, HZ2⟩
          case round =>
            obtain ⟨x, hx, rfl, HZ3⟩ := hrel
            rename World => Z3
            clear HZ2 CS2
            have CS3 := Lib.hid (CS.out _ (hP4.below HZ3.out))
            by_cases hxs : x < s
            · have hxs' : (x : Int) < (s : Int) := by omega
              have hx32 : (x : Int) < 32 := by omega
              go_upto_region 20 with (go_at_call 19; refine CS3.out.mono ?_; rintro e _ ⟨rfl, rfl⟩)
              clear CS3
              have hS3 := bd_keep hS4 HZ3.out
              go_cut [18] from 99 to 136 (fun v Z => v = .bool (decide (in2 n x y X Y W H)) ∧ Hid (Below w4.heap.size w4 Z))
              case first =>
                have g18 := Go.cell_regrown (w := Z3) (a := ⟨w3.heap.size, 18, none⟩) (v := .int .i64 X) (by rw [blk_cell hS3]; first | done | rfl)
                have g19 := Go.cell_regrown (w := Z3) (a := ⟨w3.heap.size, 19, none⟩) (v := .int .i64 Y) (by rw [blk_cell hS3]; first | done | rfl)
                have g20 := Go.cell_regrown (w := Z3) (a := ⟨w3.heap.size, 20, none⟩) (v := .int .i64 W) (by rw [blk_cell hS3]; first | done | rfl)
                have g21 := Go.cell_regrown (w := Z3) (a := ⟨w3.heap.size, 21, none⟩) (v := .int .i64 H) (by rw [blk_cell hS3]; first | done | rfl)
                have hsdD : sd D ≤ 32 := sd_le hD3
                obtain ⟨p1, hp1⟩ : ∃ p, x * 2 ^ n = p := ⟨_, rfl⟩
                obtain ⟨p2, hp2⟩ : ∃ p, (x + 1) * 2 ^ n = p := ⟨_, rfl⟩
                obtain ⟨p3, hp3⟩ : ∃ p, y * 2 ^ n = p := ⟨_, rfl⟩
                obtain ⟨p4, hp4⟩ : ∃ p, (y + 1) * 2 ^ n = p := ⟨_, rfl⟩
                have e1 : (x : Int) * 2 ^ n = (p1 : Int) := by rw [← hp1]; push_cast; rfl
                have e2 : ((x : Int) + 1) * 2 ^ n = (p2 : Int) := by rw [← hp2]; push_cast; rfl
                have e3 : (y : Int) * 2 ^ n = (p3 : Int) := by rw [← hp3]; push_cast; rfl
                have e4 : ((y : Int) + 1) * 2 ^ n = (p4 : Int) := by rw [← hp4]; push_cast; rfl
                have b1 : p1 ≤ 33 * 8 := by rw [← hp1]; exact Nat.mul_le_mul (by omega) h2n8
                have b2' : p2 ≤ 33 * 8 := by rw [← hp2]; exact Nat.mul_le_mul (by omega) h2n8
                have b3 : p3 ≤ 33 * 8 := by rw [← hp3]; exact Nat.mul_le_mul (by omega) h2n8
                have b4 : p4 ≤ 33 * 8 := by rw [← hp4]; exact Nat.mul_le_mul (by omega) h2n8
                have hI : in2 n x y X Y W H ↔ (p1 < X + W ∧ X < p2) ∧ p3 < Y + H ∧ Y < p4 := by unfold in2 inN; rw [hp1, hp2, hp3, hp4]
                have HI := Lib.hid hI
                have hn0' : ¬ (n : Int) < 0 := by omega
                clear hp1 hp2 hp3 hp4 hI hS3
                by_cases c1 : p1 < X + W
                case neg =>
                  have k1 : decide ((p1 : Int) < (X : Int) + W) = false := decide_eq_false (by omega)
                  (refine wp_region_quiet_below (by kernel_rfl) (by kernel_rfl) ?_; (repeat (go_big_quiet_step ((fail)))); refine wpQuiet_nil ?_)
                  intro w9 hU
                  have KU := Rd.below_of_regrown hU
                  go_wp2_with fail
                  try go_meet
                  try (case rel => exact ⟨congrArg Value.bool (decide_eq_false (fun h => c1 (HI.out.1 h).1.1)).symm, Lib.hid (HZ3.out.trans (KU.mono HZ3.out.size))⟩)
                have k1 : decide ((p1 : Int) < (X : Int) + W) = true := decide_eq_true (by omega)
                by_cases c2 : X < p2
                case neg =>
                  have k2 : decide ((X : Int) < (p2 : Int)) = false := decide_eq_false (by omega)
                  (refine wp_region_quiet_below (by kernel_rfl) (by kernel_rfl) ?_; (repeat (go_big_quiet_step ((fail)))); refine wpQuiet_nil ?_)
                  intro w9 hU
                  have KU := Rd.below_of_regrown hU
                  go_wp2_with fail
                  try go_meet
                  try (case rel => exact ⟨congrArg Value.bool (decide_eq_false (fun h => c2 (HI.out.1 h).1.2)).symm, Lib.hid (HZ3.out.trans (KU.mono HZ3.out.size))⟩)
                have k2 : decide ((X : Int) < (p2 : Int)) = true := decide_eq_true (by omega)
                by_cases c3 : p3 < Y + H
                case neg =>
                  have k3 : decide ((p3 : Int) < (Y : Int) + H) = false := decide_eq_false (by omega)
                  (refine wp_region_quiet_below (by kernel_rfl) (by kernel_rfl) ?_; (repeat (go_big_quiet_step ((fail)))); refine wpQuiet_nil ?_)
                  intro w9 hU
                  have KU := Rd.below_of_regrown hU
                  go_wp2_with fail
                  try go_meet
                  try (case rel => exact ⟨congrArg Value.bool (decide_eq_false (fun h => c3 (HI.out.1 h).2.1)).symm, Lib.hid (HZ3.out.trans (KU.mono HZ3.out.size))⟩)
                have k3 : decide ((p3 : Int) < (Y : Int) + H) = true := decide_eq_true (by omega)
                by_cases c4 : Y < p4
                case neg =>
                  have k4 : decide ((Y : Int) < (p4 : Int)) = false := decide_eq_false (by omega)
                  (refine wp_region_quiet_below (by kernel_rfl) (by kernel_rfl) ?_; (repeat (go_big_quiet_step ((fail)))); refine wpQuiet_nil ?_)
                  intro w9 hU
                  have KU := Rd.below_of_regrown hU
                  go_wp2_with fail
                  try go_meet
                  try (case rel => exact ⟨congrArg Value.bool (decide_eq_false (fun h => c4 (HI.out.1 h).2.2)).symm, Lib.hid (HZ3.out.trans (KU.mono HZ3.out.size))⟩)
                have k4 : decide ((Y : Int) < (p4 : Int)) = true := decide_eq_true (by omega)
                (refine wp_region_quiet_below (by kernel_rfl) (by kernel_rfl) ?_; (repeat (go_big_quiet_step ((fail)))); refine wpQuiet_nil ?_)
                intro w9 hU
                have KU := Rd.below_of_regrown hU
                go_wp2_with fail
                try go_meet
                try (case rel => exact ⟨congrArg Value.bool (decide_eq_true (HI.out.2 ⟨⟨c1, c2⟩, c3, c4⟩)).symm, Lib.hid (HZ3.out.trans (KU.mono HZ3.out.size))⟩)
              case rest =>
              obtain ⟨rfl, HZ4⟩ := hcut
              rename World => Z4
              clear HZ3 hS3
              have hPm := hP4.below HZ4.out
              have hPw := hW4p.below HZ4.out
              have hsdD : sd D ≤ 32 := sd_le hD3
              by_cases hin : in2 n x y X Y W H
              · by_cases hn0 : n = 0
                · subst hn0
                  rw [decide_eq_true hin]
                  have hsD : sd D = s := HS.out
                  obtain ⟨⟨i1, i2⟩, i3, i4⟩ := hin
                  have hin0 : in2 0 x y X Y W H := ⟨⟨i1, i2⟩, i3, i4⟩
                  rw [Nat.pow_zero, Nat.mul_one] at i1 i2 i3 i4
                  obtain ⟨yy, hyy⟩ : ∃ yy, yy = y - Y := ⟨_, rfl⟩
                  obtain ⟨pw, hpw⟩ : ∃ pw, pw = yy * W := ⟨_, rfl⟩
                  obtain ⟨ix, hix⟩ : ∃ ix, ix = pw + (x - X) := ⟨_, rfl⟩
                  have f1 : (y : Int) - (Y : Int) = (yy : Int) := by omega
                  have f2 : (yy : Int) * (W : Int) = (pw : Int) := by rw [hpw]; push_cast; rfl
                  have f3 : (pw : Int) + (x : Int) - (X : Int) = (ix : Int) := by omega
                  have hpw1 : pw + W ≤ qc := by
                    rw [hpw, HQC.out, Nat.mul_comm W H]
                    have := Nat.mul_le_mul_right W (show yy + 1 ≤ H by omega)
                    rw [Nat.add_mul, Nat.one_mul] at this
                    exact this
                  have hixq : ix < qc := by omega
                  have hixq' : (ix : Int) < (qc : Int) := by omega
                  have hqc9 : qc ≤ 4 * 4 := by rw [HQC.out]; exact Nat.mul_le_mul hW4 hH4
                  have hpc : atP (put ts (sd D) X Y W cs H) D a1 0 x y = at_ cs ix := by
                    rw [atP_put (by omega) (by omega) hin0, hix, hpw, hyy, Nat.mul_comm]
                  have g22 := Go.cell_regrown (w := Z4) (a := ⟨w3.heap.size, 22, none⟩) (v := .slice (some ⟨g3, 0, none⟩) qc cap3) (by rw [blk_cell (bd_keep hS4 HZ4.out)]; first | done | rfl)
                  have g18 := Go.cell_regrown (w := Z4) (a := ⟨w3.heap.size, 18, none⟩) (v := .int .i64 X) (by rw [blk_cell (bd_keep hS4 HZ4.out)]; first | done | rfl)
                  have g19 := Go.cell_regrown (w := Z4) (a := ⟨w3.heap.size, 19, none⟩) (v := .int .i64 Y) (by rw [blk_cell (bd_keep hS4 HZ4.out)]; first | done | rfl)
                  have g20 := Go.cell_regrown (w := Z4) (a := ⟨w3.heap.size, 20, none⟩) (v := .int .i64 W) (by rw [blk_cell (bd_keep hS4 HZ4.out)]; first | done | rfl)
                  have hld := ld_regrown0 (hC4.below HZ4.out (Nat.le_refl _)) (i := ix) (by rw [hcl]; exact hixq)
                  obtain ⟨pc, hpcn⟩ : ∃ p, at_ cs ix = p := ⟨_, rfl⟩
                  rw [hpcn] at hpc hld
                  have CW := Lib.hid fun V (hV : Pyr V b2 D a1 (put ts (sd D) X Y W cs H)) => (hpc ▸ At_any 0 x y V hV ⟨by omega, by omega⟩ ⟨by omega, by omega⟩ : Calls Try.prog 17 #[.pointer (some ⟨b2, 0, none⟩), .int .i64 0, .int .i64 x, .int .i64 y] V fun e w' => e = .returned pc.v ∧ Below V.heap.size V w')
                  clear hpc hpcn hix hpw hyy hin0
                  go_upto_region 21 with (fail)
                  (refine wp_region_quiet_below (by kernel_rfl) (by kernel_rfl) ?_; (repeat (go_big_quiet_step ((with_reducible exact Calls.regrown_of (CW.out _ (hPw.regrown _ _)))))); refine wpQuiet_nil ?_)
                  intro w9 hU
                  have KU := Rd.below_of_regrown hU
                  have HZ5 := Lib.hid (HZ4.out.trans (KU.mono HZ4.out.size))
                  clear g18 g19 g20 g22 hld f1 f2 f3
                  clear KU
                  go_wp2_with fail
                  try go_roundw
                  try (case rel => exact ⟨x + 1, by omega, by go_num, HZ5⟩)
                  try (case measure => simp [intOf]; omega)
                · rw [decide_eq_true hin]
                  have kA : decide (n = 0) = false := decide_eq_false hn0
                  have kB : ((n : Int) == 0) = false := by rw [beq_eq_false_iff_ne]; omega
                  have kC : decide ((n : Int) = 0) = false := decide_eq_false (by omega)
                  have kD : (n == 0) = false := by rw [beq_eq_false_iff_ne]; exact hn0
                  go_upto_region 21 with (fail)
                  (refine wp_region_quiet_below (by kernel_rfl) (by kernel_rfl) ?_; (repeat (go_big_quiet_step ((fail)))); refine wpQuiet_nil ?_)
                  intro w9 hU
                  have KU := Rd.below_of_regrown hU
                  have HZ5 := Lib.hid (HZ4.out.trans (KU.mono HZ4.out.size))
                  clear KU
                  go_wp2_with fail
                  try go_roundw
                  try (case rel => exact ⟨x + 1, by omega, by go_num, HZ5⟩)
                  try (case measure => simp [intOf]; omega)
              · by_cases hn0 : n = 0
                · subst hn0
                  obtain ⟨p, hp⟩ : ∃ p, atP ts D a1 0 x y = p := ⟨_, rfl⟩
                  have hq1 : atP (put ts (sd D) X Y W cs H) D a1 0 x y = p := by rw [← hp]; exact atP_out hnD (by rw [HS.out]; exact hxs) (by rw [HS.out]; exact hys) hin
                  have CW := Lib.hid fun V (hV : Pyr V b2 D a1 (put ts (sd D) X Y W cs H)) => (hq1 ▸ At_any 0 x y V hV ⟨by omega, by omega⟩ ⟨by omega, by omega⟩ : Calls Try.prog 17 #[.pointer (some ⟨b2, 0, none⟩), .int .i64 0, .int .i64 x, .int .i64 y] V fun e w' => e = .returned p.v ∧ Below V.heap.size V w')
                  have CM := Lib.hid fun V (hV : Pyr V b D a1 ts) => (hp ▸ At_any 0 x y V hV ⟨by omega, by omega⟩ ⟨by omega, by omega⟩ : Calls Try.prog 17 #[.pointer (some ⟨b, 0, none⟩), .int .i64 0, .int .i64 x, .int .i64 y] V fun e w' => e = .returned p.v ∧ Below V.heap.size V w')
                  rw [decide_eq_false hin]
                  clear hp hq1
                  go_upto_region 21 with (fail)
                  (refine wp_region_quiet_below (by kernel_rfl) (by kernel_rfl) ?_; (repeat (go_big_quiet_step ((first | (with_reducible exact Calls.regrown_of (CW.out _ (hPw.regrown _ _))) | (with_reducible exact Calls.regrown_of (CM.out _ (hPm.regrown _ _))))))); refine wpQuiet_nil ?_)
                  intro w9 hU
                  have KU := Rd.below_of_regrown hU
                  have HZ5 := Lib.hid (HZ4.out.trans (KU.mono HZ4.out.size))
                  clear KU
                  go_wp2_with fail
                  try go_roundw
                  try (case rel => exact ⟨x + 1, by omega, by go_num, HZ5⟩)
                  try (case measure => simp [intOf]; omega)
                · have kA : decide (n = 0) = false := decide_eq_false hn0
                  have kB : ((n : Int) == 0) = false := by rw [beq_eq_false_iff_ne]; omega
                  have kC : decide ((n : Int) = 0) = false := decide_eq_false (by omega)
                  have kD : (n == 0) = false := by rw [beq_eq_false_iff_ne]; exact hn0
                  obtain ⟨p, hp⟩ : ∃ p, atP ts D a1 (n : Int) x y = p := ⟨_, rfl⟩
                  have hq1 : atP (put ts (sd D) X Y W cs H) D a1 (n : Int) x y = p := by rw [← hp]; exact atP_out hnD (by rw [HS.out]; exact hxs) (by rw [HS.out]; exact hys) hin
                  have CW := Lib.hid fun V (hV : Pyr V b2 D a1 (put ts (sd D) X Y W cs H)) => (hq1 ▸ At_any (n : Int) x y V hV ⟨by omega, by omega⟩ ⟨by omega, by omega⟩ : Calls Try.prog 17 #[.pointer (some ⟨b2, 0, none⟩), .int .i64 (n : Int), .int .i64 x, .int .i64 y] V fun e w' => e = .returned p.v ∧ Below V.heap.size V w')
                  have CM := Lib.hid fun V (hV : Pyr V b D a1 ts) => (hp ▸ At_any (n : Int) x y V hV ⟨by omega, by omega⟩ ⟨by omega, by omega⟩ : Calls Try.prog 17 #[.pointer (some ⟨b, 0, none⟩), .int .i64 (n : Int), .int .i64 x, .int .i64 y] V fun e w' => e = .returned p.v ∧ Below V.heap.size V w')
                  rw [decide_eq_false hin]
                  clear hp hq1
                  go_upto_region 21 with (fail)
                  (refine wp_region_quiet_below (by kernel_rfl) (by kernel_rfl) ?_; (repeat (go_big_quiet_step ((first | (with_reducible exact Calls.regrown_of (CW.out _ (hPw.regrown _ _))) | (with_reducible exact Calls.regrown_of (CM.out _ (hPm.regrown _ _))))))); refine wpQuiet_nil ?_)
                  intro w9 hU
                  have KU := Rd.below_of_regrown hU
                  have HZ5 := Lib.hid (HZ4.out.trans (KU.mono HZ4.out.size))
                  clear KU
                  go_wp2_with fail
                  try go_roundw
                  try (case rel => exact ⟨x + 1, by omega, by go_num, HZ5⟩)
                  try (case measure => simp [intOf]; omega)
            · obtain rfl : x = s := by omega
              have hxs' : ¬ (x : Int) < (x : Int) := by omega
              go_wp2_with (go_at_call 19; refine CS3.out.mono ?_; rintro e _ ⟨rfl, rfl⟩)
              try go_roundw
              try (case rel => exact ⟨y + 1, by omega, by go_num, HZ3⟩)
              try (case measure => simp [intOf]; omega)
        · obtain rfl : y = s := by omega
          have hys' : ¬ (y : Int) < (y : Int) := by omega
          go_wp2_with (go_at_call 19; refine CS2.out.mono ?_; rintro e _ ⟨rfl, rfl⟩)
          try go_roundw
          try (case rel => exact ⟨n + 1, by omega, by go_num, HZ2⟩)
          try (case measure => simp [intOf]; omega)
    · have hnD' : ¬ (n : Int) ≤ (D : Int) := by omega
      have hT5 := bd_keep hT4 HZ1.out
      have hP5 := hP4.below HZ1.out
      have hR5 := hR4.below HZ1.out (Nat.le_refl _)
      have L5 : Below w.heap.size w Z1 := L4.trans (HZ1.out.mono L4.size)
      clear hT4 hP4 hR4 hW4p hS4 hC4 L4
      go_upto_region 23 with (fail)
      refine PredT.region_of (W := Z1) (Z1.heap.size) (Nat.le_refl _) [] [
          fun _ => True] [
          PredT.At 0 (.pointer (some ⟨b, 0, none⟩)),
          PredT.When 0 (fun u y => ∃ g2 cap2, u = .agg #[.int .i64 D, .bool a1, .slice (some ⟨g2, 0, none⟩) q cap2] ∧ Reads y 4 (some ⟨g2, 0, none⟩) q (cp ts)),
          PredT.At 0 (.agg #[.int .i64 D, .bool a1, .slice (some ⟨g, 0, none⟩) q cap]),
          PredT.At 0 (.bool true),
          PredT.At 0 (.bool true),
          PredT.At 0 (.bool true),
          PredT.At 0 (.bool true),
          PredT.At 0 (.bool true)] (by kernel_rfl) (by kernel_rfl) (by kernel_rfl) (by decide) (by decide) ?_ ?_ ?_ ?_ ?_ ?_
      · exact ⟨PredT.at_stab _ _ _ _, PredT.when_stab _ _ _ (fun u y y' ⟨g2, cap2, h1, h2⟩ hb => ⟨g2, cap2, h1, h2.below hb (Nat.le_refl _)⟩), PredT.at_stab _ _ _ _, PredT.at_stab _ _ _ _, PredT.at_stab _ _ _ _, PredT.at_stab _ _ _ _, PredT.at_stab _ _ _ _, PredT.at_stab _ _ _ _, trivial⟩
      · intro q hq
        rcases List.mem_cons.1 hq with rfl | hq
        · exact fun _ _ h _ => trivial
        cases hq
      · exact trivial
      · refine ⟨.inr ?_, .inr ?_, .inr ?_, .inr ?_, .inr ?_, .inr ?_, .inr ?_, .inr ?_, trivial⟩
        · intro b9 X ph hE hd hn hS hV hI hF
          have r10 : b9.tmps[10]?.getD undef = .pointer (some ⟨b, 0, none⟩) := (hn 10 (by kernel_rfl)).trans rfl
          exact Pred.yields_run (v := .pointer (some ⟨b, 0, none⟩)) (Pred.wanted_none rfl) (by go_simp) ⟨Below.refl _ _, rfl, Nat.zero_le _⟩
        · intro b9 X ph hE hd hn hS hV hI hF
          obtain ⟨r182, j182⟩ : PredT.At 0 (.pointer (some ⟨b, 0, none⟩)) (b9.tmps[182]?.getD undef) X ph := hV 0 _ 182 rfl rfl (Pred.waits_near (by kernel_rfl) (by kernel_rfl))
          refine Pred.yields_call (f := 22) (args := #[.pointer (some ⟨b, 0, none⟩)]) (Pred.wanted_none rfl) (by go_simp) ?_
          refine (Texture_any X (hP5.below hE)).mono ?_
          rintro e w9 ⟨⟨u2, rfl, ho2⟩, hb⟩
          rw [← HQ.out] at ho2
          obtain ⟨g2, cap2, rfl, -, -, -, -, -⟩ := owns_pos ho2 hq0
          exact ⟨_, rfl, hb, Nat.zero_le _, fun _ => ⟨g2, cap2, rfl, Reads.of_owns ho2⟩⟩
        · intro b9 X ph hE hd hn hS hV hI hF
          have r9 : b9.tmps[9]?.getD undef = .pointer (some ⟨w1.heap.size, 0, none⟩) := (hn 9 (by kernel_rfl)).trans rfl
          have hTX := (blk_below hE _ (blk_lt hT5)).trans hT5
          exact Pred.yields_run (v := .agg #[.int .i64 D, .bool a1, .slice (some ⟨g, 0, none⟩) q cap]) (Pred.wanted_none rfl) (by go_simp) ⟨Below.refl _ _, rfl, Nat.zero_le _⟩
        · intro b9 X ph hE hd hn hS hV hI hF
          obtain ⟨j183, r183⟩ : PredT.When 0 (fun u y => ∃ g2 cap2, u = .agg #[.int .i64 D, .bool a1, .slice (some ⟨g2, 0, none⟩) q cap2] ∧ Reads y 4 (some ⟨g2, 0, none⟩) q (cp ts)) (b9.tmps[183]?.getD undef) X ph := hV 1 _ 183 rfl rfl (Pred.waits_near (by kernel_rfl) (by kernel_rfl))
          obtain ⟨r184, j184⟩ : PredT.At 0 (.agg #[.int .i64 D, .bool a1, .slice (some ⟨g, 0, none⟩) q cap]) (b9.tmps[184]?.getD undef) X ph := hV 2 _ 184 rfl rfl (Pred.waits_near (by kernel_rfl) (by kernel_rfl))
          obtain ⟨g2, cap2, hv, hr2⟩ := r183 (by have := PredT.sel_le hS; simp at this; omega)
          have rde : b9.tmps[183]?.getD undef = .agg #[.int .i64 D, .bool a1, .slice (some ⟨g2, 0, none⟩) q cap2] := hv
          clear hv
          refine Pred.yields_call (f := 21) (args := #[.agg #[.int .i64 D, .bool a1, .slice (some ⟨g2, 0, none⟩) q cap2], .agg #[.int .i64 D, .bool a1, .slice (some ⟨g, 0, none⟩) q cap]]) (Pred.wanted_none rfl) (by go_simp) ?_
          refine (tex_same D a1 ⟨g2, 0, none⟩ ⟨g, 0, none⟩ q cap2 cap ts X hr2 (hR5.below hE (Nat.le_refl _)) (by omega) hD3).mono ?_
          rintro e w9 ⟨rfl, hb⟩
          exact ⟨_, rfl, hb, rfl, Nat.zero_le _⟩
        · intro b9 X ph hE hd hn hS hV hI hF
          obtain ⟨r185, j185⟩ : PredT.At 0 (.bool true) (b9.tmps[185]?.getD undef) X ph := hV 3 _ 185 rfl rfl (Pred.waits_near (by kernel_rfl) (by kernel_rfl))
          exact Pred.yields_run (v := .bool true) (Pred.wanted_none rfl) (by go_simp) ⟨Below.refl _ _, rfl, Nat.zero_le _⟩
        · intro b9 X ph hE hd hn hS hV hI hF
          obtain ⟨r186, j186⟩ : PredT.At 0 (.bool true) (b9.tmps[186]?.getD undef) X ph := hV 4 _ 186 rfl rfl (Pred.waits_near (by kernel_rfl) (by kernel_rfl))
          refine Pred.yields_call (f := 10) (args := #[]) ((Pred.wanted_at (g := 4) (d := 186) (f := true) rfl rfl r186).trans rfl) (by go_simp) ?_
          refine (awake_any X).mono ?_
          rintro e w9 ⟨rfl, hb⟩
          exact ⟨_, rfl, hb, rfl, Nat.zero_le _⟩
        · intro b9 X ph hE hd hn hS hV hI hF
          obtain ⟨r186, j186⟩ : PredT.At 0 (.bool true) (b9.tmps[186]?.getD undef) X ph := hV 4 _ 186 rfl rfl (Pred.waits_near (by kernel_rfl) (by kernel_rfl))
          obtain ⟨r187, j187⟩ : PredT.At 0 (.bool true) (b9.tmps[187]?.getD undef) X ph := hV 5 _ 187 rfl rfl (Pred.waits_near (by kernel_rfl) (by kernel_rfl))
          exact Pred.yields_run (v := .bool true) (Pred.wanted_none rfl) (by go_simp) ⟨Below.refl _ _, rfl, Nat.zero_le _⟩
        · intro b9 X ph hE hd hn hS hV hI hF
          obtain ⟨r188, j188⟩ : PredT.At 0 (.bool true) (b9.tmps[188]?.getD undef) X ph := hV 6 _ 188 rfl rfl (Pred.waits_near (by kernel_rfl) (by kernel_rfl))
          exact Pred.yields_run (v := .bool true) (Pred.wanted_none rfl) (by go_simp) ⟨Below.refl _ _, rfl, Nat.zero_le _⟩
      · trivial
      intro v X hE hS hv
      replace hS : (fun _ => True) X := hS
      have e0 : v 0 = .pointer (some ⟨b, 0, none⟩) := (hv 0 _ 182 rfl rfl).1
      generalize hg1 : v 1 = vv1
      have e2 : v 2 = .agg #[.int .i64 D, .bool a1, .slice (some ⟨g, 0, none⟩) q cap] := (hv 2 _ 184 rfl rfl).1
      have e3 : v 3 = .bool true := (hv 3 _ 185 rfl rfl).1
      have e4 : v 4 = .bool true := (hv 4 _ 186 rfl rfl).1
      have e5 : v 5 = .bool true := (hv 5 _ 187 rfl rfl).1
      have e6 : v 6 = .bool true := (hv 6 _ 188 rfl rfl).1
      have e7 : v 7 = .bool true := (hv 7 _ 8 rfl rfl).1
      simp only [Pred.putsF_cons, Pred.putsF_nil, Nat.zero_add, Nat.reduceAdd, e0, hg1, e2, e3, e4, e5, e6, e7, Act.put, List.setIfInBounds_toArray, List.set_cons_zero, List.set_cons_succ]
      clear e0 hg1 e2 e3 e4 e5 e6 e7 hv
      have L9 : Below w.heap.size w X := L5.trans (hE.mono L5.size)
      clear hE hP5 hT5 hR5
      go_wp2_with fail
      go_ret
      exact ⟨rfl, L9⟩
end Go.Proofs.Ytdjiblgnealmkaa.MpW
