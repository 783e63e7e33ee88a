/-
  The law of package cut: borders.
-/
import Derived.Test.YtdjiblgnealmkaaCtH
import Derived.Test.YtdjiblgnealmkaaAlike
namespace Go.Proofs.Ytdjiblgnealmkaa.CtI
open Go.RowKit Rd Go.Proofs.Ytdjiblgnealmkaa.Row Mid DkM HueA MpM MpA MpB MpC MpD MpE MpF MpG
open MpQ MpS MpT MpU
open CtA CtB CtC CtD CtE CtF CtG CtH
open Ints (i64s In64)
set_option linter.unusedVariables false
set_option linter.unusedSimpArgs false
set_option maxRecDepth 10000
theorem shl_one {e : Nat} (h : e ≤ 3) : Op.shift .shl .i64 1 .i64 (e : Int) = pure (.int .i64 ((2 ^ e : Nat) : Int)) := by
  rcases (show e = 0 ∨ e = 1 ∨ e = 2 ∨ e = 3 by omega) with rfl | rfl | rfl | rfl <;> rfl
/-- a page out of the row of all -/
theorem page_row {D k : Nat} (hD : D ≤ 3) (hk : k < (PgM.allV (D : Int)).length) : ∃ l x y e : Nat, PgM.at_ (PgM.allV (D : Int)) k = [(l : Int), (x : Int), (y : Int)] ∧ PgM.validB D l x y = true ∧ e = D - l ∧ l ≤ D ∧ x < 2 ^ e ∧ y < 2 ^ e := by
  have hm : PgM.at_ (PgM.allV (D : Int)) k ∈ PgM.allV (D : Int) := by rw [PgM.at_eq hk]; exact List.getElem_mem hk
  have hv := all_valid hD _ hm
  obtain ⟨h1, ⟨h2, h3⟩, ⟨h4, h5⟩, ⟨h6, h7⟩⟩ := PgM.valid_yes hv
  obtain ⟨l, hl⟩ : ∃ l : Nat, PgM.g (PgM.at_ (PgM.allV (D : Int)) k) 0 = l := ⟨_, (Int.toNat_of_nonneg h2).symm⟩
  obtain ⟨x, hx⟩ : ∃ l : Nat, PgM.g (PgM.at_ (PgM.allV (D : Int)) k) 1 = l := ⟨_, (Int.toNat_of_nonneg h4).symm⟩
  obtain ⟨y, hy⟩ : ∃ l : Nat, PgM.g (PgM.at_ (PgM.allV (D : Int)) k) 2 = l := ⟨_, (Int.toNat_of_nonneg h6).symm⟩
  rw [hl] at h3
  have hsd : PgM.sd (D : Int) (l : Int) = ((2 ^ (D - l) : Nat) : Int) := by unfold PgM.sd; rw [show ((D : Int) - (l : Int)).toNat = D - l by omega]
  rw [hl, hx, hsd] at h5
  rw [hl, hy, hsd] at h7
  refine ⟨l, x, y, D - l, ?_, ?_, rfl, by omega, by omega, by omega⟩
  · have h3 : (PgM.at_ (PgM.allV (D : Int)) k).length = 3 := by
      have : ∀ v ∈ PgM.allV (D : Int), v.length = 3 := by
        rcases (show D = 0 ∨ D = 1 ∨ D = 2 ∨ D = 3 by omega) with rfl | rfl | rfl | rfl <;> decide +kernel
      exact this _ hm
    revert h3 hl hx hy
    generalize PgM.at_ (PgM.allV (D : Int)) k = v
    intro hl hx hy h3
    match v, h3 with
    | [a, b, c], _ =>
      have e1 : a = l := hl
      have e2 : b = x := hx
      have e3 : c = y := hy
      rw [e1, e2, e3]
  · rw [← hl, ← hx, ← hy]; exact hv
theorem valid_of {D l x y : Nat} (hD : D ≤ 3) (hl : l ≤ D) (hx : x < 2 ^ (D - l)) (hy : y < 2 ^ (D - l)) : PgM.validB D l x y = true := by
  have hsd : PgM.sd (D : Int) (l : Int) = ((2 ^ (D - l) : Nat) : Int) := by unfold PgM.sd; rw [show ((D : Int) - (l : Int)).toNat = D - l by omega]
  refine PgM.valid_mk ⟨by omega, by omega, ⟨by omega, ?_⟩, ⟨by omega, ?_⟩⟩ <;> rw [hsd] <;> omega
attribute [local go_sem ↓] load_tex store_tex load_col store_col alloc_col PgA.store_pg
attribute [local go_sem] PgA.pc3 PgA.run_store_pg eq_px px_self Px.c_size Px.c_all c_all4 fold_px run_load_tex run_store_tex run_alloc_col CtB.run_load_col run_store_col rowStore_eq rowLoad_eq one_int one_bool one_sl blk_alloc_at blk_alloc_old blk_drew blk_drewN blk_grow setRow_alloc_at setRow_alloc_old setRow_drew setRow_drewN
set_option maxHeartbeats 8000000 in
theorem CutBorders_walk (a0 : Int) (a1 : Bool) (a2 : Option Addr) (len2 cap2 : Nat) (x2 : List (List Value)) (a3 : Int) (a4 : Int) (w : World) (w0 : (Lit.int .i64 a0).wf = true) (w2 : Flat.IsRows [some .i64] w a2 len2 cap2 x2) (w3 : (Lit.int .i64 a3).wf = true) (w4 : (Lit.int .i64 a4).wf = true) :
    Calls Try.prog 7 #[.int .i64 a0, .bool a1, .slice a2 len2 cap2, .int .i64 a3, .int .i64 a4] w fun e w' => e = .returned (.bool true) ∧ Below w.heap.size w w' := by
  obtain ⟨zs, hzl, hz, hR, hlc, hcm, -⟩ := Ints.rows_row (s := 1) (by omega) w2
  obtain ⟨d1, d2⟩ := bounds_i64 w0
  obtain ⟨l1, l2⟩ := bounds_i64 w3
  obtain ⟨y1, y2⟩ := bounds_i64 w4
  clear w0 w2 w3 w4
  have hlen9 : len2 ≤ 9223372036854775807 := by have : maxLen = 9223372036854775807 := rfl; omega
  by_cases hb1 : 50 < len2
  · have hb1' : (50 : Int) < (len2 : Int) := by omega
    clear hR hzl
    go_enter Try.func7, Try.ntmps7
    go_wp2_with (go_at_call 27; refine (CtH.awake_any _).mono ?_; rintro e w3 ⟨rfl, hb⟩)
    go_ret
    exact ⟨rfl, hb⟩
  have hb1' : ¬ (50 : Int) < (len2 : Int) := by omega
  clear hzl
  go_enter Try.func7, Try.ntmps7
  go_wp2_with fail
  refine (Paint_any a0 a1 a2 len2 cap2 zs w d1 d2 hR hz (by omega)).mono ?_
  rintro e w1 ⟨⟨D, u, ts, -, hD3, rfl, hts, hRB, hou⟩, hb1⟩
  obtain ⟨q, hq⟩ : ∃ q, q = sd D * sd D := ⟨_, rfl⟩
  have hq0 : 0 < q := by rw [hq]; exact Nat.mul_pos (by have := sd_pos D; omega) (by have := sd_pos D; omega)
  rw [← hq] at hou hts
  obtain ⟨g, cap, rfl, hg0, hg1, hgc, hgm, -⟩ := owns_pos hou hq0
  have HQ := Lib.hid hq
  clear hq
  have hTB : blk (w1.alloc (.cells #[.int .i64 D, .bool a1, .slice (some ⟨g, 0, none⟩) q cap] 24)) w1.heap.size = some (.cells #[.int .i64 D, .bool a1, .slice (some ⟨g, 0, none⟩) q cap] 24 (0, 0)) := blk_alloc_at _ _ _ rfl
  have hB1 := (Below.refl w1.heap.size w1).alloc (Nat.le_refl _) (.cells #[.int .i64 D, .bool a1, .slice (some ⟨g, 0, none⟩) q cap] 24)
  have hRd := (Reads.of_owns hou).below hB1 (Nat.le_refl _)
  have hs1 := hb1.size
  go_wp2_with fail
  refine (Build_any a1 ⟨g, 0, none⟩ q cap _ hRd hD3 HQ.out hRB).mono ?_
  rintro e w2 ⟨⟨b, rfl, hb2lo, hP⟩, hb2⟩
  have L2 : Below w.heap.size w w2 := by repeat' (first | (with_reducible exact Below.refl _ _) | (with_reducible refine Rd.below_step ?_ (by assumption)) | (with_reducible refine Rd.below_alloc ?_ _) | (with_reducible refine Rd.below_drewN ?_ _) | (with_reducible refine Below.drew ?_) | (with_reducible refine Below.setCell ?_ ?_ _) | (with_reducible refine Rd.below_setRow ?_ ?_ _) | go_size | (simp only [World.size_alloc]; omega) | omega)
  have hT2 := bd_keep hTB hb2
  clear hTB hB1 hRd hou hR hb1 hb2 hb2lo
  have cD : w2.cell? ⟨w1.heap.size, 0, none⟩ = some (.int .i64 D) := by rw [blk_cell hT2]; first | done | rfl
  go_wp2_with fail
  refine (PgC.rpages_any (D : Int) w2).mono ?_
  rintro e w3 ⟨⟨ad, c3, rfl, hc3, hm3, hPg⟩, hb3⟩
  have hP3 := hP.below hb3
  have hT3 := bd_keep hT2 hb3
  have cD3 : w3.cell? ⟨w1.heap.size, 0, none⟩ = some (.int .i64 D) := by rw [blk_cell hT3]; first | done | rfl
  have L3 : Below w.heap.size w w3 := L2.trans (hb3.mono L2.size)
  obtain ⟨N, hN⟩ : ∃ N, (PgM.allV (D : Int)).length = N := ⟨_, rfl⟩
  have hN1 : 1 ≤ N ∧ N ≤ 85 := by
    rw [← hN]
    rcases (show D = 0 ∨ D = 1 ∨ D = 2 ∨ D = 3 by omega) with rfl | rfl | rfl | rfl <;> decide +kernel
  obtain ⟨k, hk⟩ : ∃ k : Nat, a3 % (N : Int) = k := ⟨(a3 % (N : Int)).toNat, by have := Int.emod_nonneg a3 (b := (N : Int)) (by omega); omega⟩
  have hkN : k < N := by have := Int.emod_lt_of_pos a3 (b := (N : Int)) (by omega); omega
  have CR := Lib.hid fun X => (hk ▸ Alk.round_any a3 N X l1 l2 (by omega) (by omega) : Calls Try.prog _ _ X fun e w' => e = .returned (.int .i64 k) ∧ X = w')
  obtain ⟨l, x, y, ee, hrow, hval, hee, hlD, hx, hy⟩ := page_row hD3 (k := k) (by omega)
  obtain ⟨pb, po, rfl, hpb, hpc⟩ : ∃ pb po, ad = some ⟨pb, po, none⟩ ∧ pb < w3.heap.size ∧ ∀ j, j < 3 → w3.cell? ⟨pb, po + k * 3 + j, none⟩ = some (.int .i64 (PgM.g [(l : Int), (x : Int), (y : Int)] j)) := by
    rcases hPg.2 with h | ⟨pb, po, h1, h2, h3⟩
    · rw [h] at hN; simp at hN; omega
    · exact ⟨pb, po, h1, h2, fun j hj => by rw [← hrow]; exact h3 k (by omega) j hj⟩
  have p0 : w3.cell? ⟨pb, po + k * 3, none⟩ = some (.int .i64 l) := hpc 0 (by omega)
  have p1 : w3.cell? ⟨pb, po + k * 3 + 1, none⟩ = some (.int .i64 x) := hpc 1 (by omega)
  have p2 : w3.cell? ⟨pb, po + k * 3 + 2, none⟩ = some (.int .i64 y) := hpc 2 (by omega)
  have hkN' : (k : Int) < (N : Int) := by omega
  rw [hN] at hc3 ⊢
  clear hT2 hP L2 hb3 cD hN hk hPg hpc hrow
  go_wp2_with fail
  refine (CR.out _).mono ?_
  rintro e _ ⟨rfl, rfl⟩
  obtain ⟨n, hn⟩ : ∃ n, n = 2 ^ ee := ⟨_, rfl⟩
  have hn8 : 1 ≤ n ∧ n ≤ 8 := by
    rw [hn]
    rcases (show ee = 0 ∨ ee = 1 ∨ ee = 2 ∨ ee = 3 by omega) with rfl | rfl | rfl | rfl <;> decide
  rw [← hn] at hx hy
  have he' : (D : Int) - (l : Int) = (ee : Int) := by omega
  have h2e : (2 : Int) ^ ee = (n : Int) := by rw [hn]; push_cast; rfl
  have hsh : wrap64 ((2 : Int) ^ ee) = (n : Int) := by rw [h2e]; exact IntWalk.wrap64_in (n : Int) (by clear hn h2e; omega)
  have HSH := Lib.hid hsh
  clear h2e hsh
  have HN := Lib.hid hn
  have HE := Lib.hid hee
  obtain ⟨j, hj⟩ : ∃ j : Nat, a4 % 6 = j := ⟨(a4 % 6).toNat, by omega⟩
  have hj6 : j < 6 := by omega
  have CJ := Lib.hid fun X => (hj ▸ Alk.round_any a4 6 X y1 y2 (by omega) (by omega) : Calls Try.prog _ _ X fun e w' => e = .returned (.int .i64 j) ∧ X = w')
  clear hj hn hee
  go_upto_region 9 with (fail)
  refine Rd.name_world ?_
  intro W hW
  have B4 : Below w3.heap.size w3 W := by rw [hW]; repeat' (first | (with_reducible exact Below.refl _ _) | (with_reducible refine Rd.below_step ?_ (by assumption)) | (with_reducible refine Rd.below_alloc ?_ _) | (with_reducible refine Rd.below_drewN ?_ _) | (with_reducible refine Below.drew ?_) | (with_reducible refine Below.setCell ?_ ?_ _) | (with_reducible refine Rd.below_setRow ?_ ?_ _) | go_size | (simp only [World.size_alloc]; omega) | omega)
  have hT4 := bd_keep hT3 B4
  have hG4 : blk W w3.heap.size = some (.cells #[.int .i64 l, .int .i64 x, .int .i64 y] 61 (0, 0)) := by rw [hW]; exact blk_alloc_at _ _ _ rfl
  have hP4 := hP3.below B4
  have L4 : Below w.heap.size w W := L3.trans (B4.mono L3.size)
  have cD4 : W.cell? ⟨w1.heap.size, 0, none⟩ = some (.int .i64 D) := by rw [blk_cell hT4]; first | done | rfl
  have q0 : W.cell? ⟨w3.heap.size, 0, none⟩ = some (.int .i64 l) := by rw [blk_cell hG4]; first | done | rfl
  have q1 : W.cell? ⟨w3.heap.size, 1, none⟩ = some (.int .i64 x) := by rw [blk_cell hG4]; first | done | rfl
  have q2 : W.cell? ⟨w3.heap.size, 2, none⟩ = some (.int .i64 y) := by rw [blk_cell hG4]; first | done | rfl
  clear hW hT3 hP3 cD3 L3 B4 p0 p1 p2 CR hT4
  go_upto_region 10 with (fail)
  rw [HSH.out]
  go_wp2_with fail
  refine (CJ.out _).mono ?_
  rintro e _ ⟨rfl, rfl⟩
  go_wp2_with fail
  refine (Page_any (l : Int) x y W hP4 hval).mono ?_
  rintro e w4 ⟨⟨u4, rfl, ho4⟩, hb4⟩
  obtain ⟨g4, cap4, rfl, -, -, hc4, -, -⟩ := owns_pos ho4 (by omega)
  have hR4 : Reads w4 1 (some ⟨g4, 0, none⟩) 144 (cp (pageP ts D a1 l x y)) := by rw [cp_fb]; exact Reads.of_owns ho4
  have hP5 := hP4.below hb4
  have hG5 := bd_keep hG4 hb4
  have L5 : Below w.heap.size w w4 := L4.trans (hb4.mono L4.size)
  have q0 : w4.cell? ⟨w3.heap.size, 0, none⟩ = some (.int .i64 l) := by rw [blk_cell hG5]; first | done | rfl
  have q1 : w4.cell? ⟨w3.heap.size, 1, none⟩ = some (.int .i64 x) := by rw [blk_cell hG5]; first | done | rfl
  have q2 : w4.cell? ⟨w3.heap.size, 2, none⟩ = some (.int .i64 y) := by rw [blk_cell hG5]; first | done | rfl
  clear ho4 hP4 hG4 hb4 L4
  obtain ⟨xr, hxr, hx2⟩ : ∃ xr : Nat, ((x : Int) + 1).tmod (n : Int) = xr ∧ ((x + 1 < n ∧ xr = x + 1) ∨ (x + 1 = n ∧ xr = 0)) := by
    by_cases h : x + 1 < n
    · exact ⟨x + 1, by rw [Int.tmod_eq_emod_of_nonneg (by omega)]; exact Int.emod_eq_of_lt (by omega) (by omega), .inl ⟨h, rfl⟩⟩
    · refine ⟨0, ?_, .inr ⟨by omega, rfl⟩⟩
      rw [show (x : Int) + 1 = n by omega]
      exact Int.tmod_self
  have hxn : xr < n := by omega
  have hval2 : PgM.validB D l xr y = true := valid_of hD3 hlD (by rw [← HE.out, ← HN.out]; exact hxn) (by rw [← HE.out, ← HN.out]; exact hy)
  have h9 := IntWalk.i64_in ((x : Int) + 1) (by omega)
  have hn0 : ¬ (n : Int) = 0 := by omega
  have hn0' : ((n : Int) == 0) = false := by simp; omega
  have hlt4 := blk_lt hG5
  have PK := Lib.hid (And.intro hD3 (And.intro hRB (And.intro hc4 (And.intro hR4 (And.intro hP5 (And.intro L5 (And.intro hval (And.intro hval2 (And.intro hlD (And.intro hx (And.intro hy (And.intro hxn (And.intro hx2 (And.intro HN (And.intro HE (And.intro hj6 (And.intro hn8 hG5)))))))))))))))))
  clear hz hlc hcm d1 d2 l1 l2 y1 y2 hlen9 hb1 hb1' hD3 hRB hts hq0 hg0 hg1 hgc hgm HQ hs1 hc3 hm3 hN1 hkN hval hlD hx hy hkN' hn8 he' HN HE hj6 CJ hc4 hR4 hP5 hG5 L5 hx2 hxn hval2 hpb cD4
  go_upto_region 12 with (fail)
  go_region
  go_upto_region 13 with (fail)
  refine Rd.name_world ?_
  intro W2 hW2
  obtain ⟨hD3, hRB, hc4, hR4, hP5, L5, hval, hval2, hlD, hx, hy, hxn, hx2, HN, HE, hj6, hn8, hG5⟩ := PK.out
  have B6 : Below w4.heap.size w4 W2 := by rw [hW2]; repeat' (first | (with_reducible exact Below.refl _ _) | (with_reducible refine Rd.below_step ?_ (by assumption)) | (with_reducible refine Rd.below_alloc ?_ _) | (with_reducible refine Rd.below_drewN ?_ _) | (with_reducible refine Below.drew ?_) | (with_reducible refine Below.setCell ?_ ?_ _) | (with_reducible refine Rd.below_setRow ?_ ?_ _) | go_size | (simp only [World.size_alloc]; omega) | omega)
  have hP6 := hP5.below B6
  have hR6 := hR4.below B6 (Nat.le_refl _)
  have hG6 := bd_keep hG5 B6
  have hK6 : blk W2 w4.heap.size = some (.cells #[.int .i64 l, .int .i64 xr, .int .i64 y] 61 (0, 0)) := by rw [hW2, blk_drew]; exact blk_alloc_at _ _ _ rfl
  have L6 : Below w.heap.size w W2 := L5.trans (B6.mono L5.size)
  have k0 : W2.cell? ⟨w4.heap.size, 0, none⟩ = some (.int .i64 l) := by rw [blk_cell hK6]; first | done | rfl
  have k1 : W2.cell? ⟨w4.heap.size, 1, none⟩ = some (.int .i64 xr) := by rw [blk_cell hK6]; first | done | rfl
  have k2 : W2.cell? ⟨w4.heap.size, 2, none⟩ = some (.int .i64 y) := by rw [blk_cell hK6]; first | done | rfl
  clear hW2 hP5 hR4 hG5 L5 B6 PK q0 q1 q2 h9 hn0 hn0' hxr hlt4
  go_wp2_with fail
  refine (Page_any (l : Int) xr y W2 hP6 hval2).mono ?_
  rintro e w5 ⟨⟨u5, rfl, ho5⟩, hb5⟩
  obtain ⟨g5, cap5, rfl, -, -, hc5, -, -⟩ := owns_pos ho5 (by omega)
  have hR5 : Reads w5 1 (some ⟨g5, 0, none⟩) 144 (cp (pageP ts D a1 l xr y)) := by rw [cp_fb]; exact Reads.of_owns ho5
  have hR7 := hR6.below hb5 (Nat.le_refl _)
  have hG7 := bd_keep hG6 hb5
  have hlt5 := blk_lt hG7
  have L7 : Below w.heap.size w w5 := L6.trans (hb5.mono L6.size)
  clear ho5 hP6 hR6 hG6 hK6 hb5 L6 k0 k1 k2
  have CT := Lib.hid fun (g c : Nat) (X Y : Int) (i : Nat) (hi : i < 6) (hc : 144 ≤ c) (Z : World) (hR : Reads Z 1 (some ⟨g, 0, none⟩) 144 (cp (pageP ts D a1 l X Y))) => (pageP_at (ts := ts) (D := D) (wr := a1) (L := l) (X := X) (Y := Y) hi hj6 ▸ Texel_any g 0 c (pageP ts D a1 l X Y) i j Z hR hc (pageP_len l X Y) hi hj6 : Calls Try.prog 30 #[.slice (some ⟨g, 0, none⟩) 144 c, .int .i64 ((i : Int) - 1), .int .i64 ((j : Int) - 1)] Z fun e w' => e = .returned (.tuple #[(atP ts D a1 l (4 * X + ((i : Int) - 1)) (4 * Y + ((j : Int) - 1))).v, .bool true]) ∧ Below Z.heap.size Z w')
  obtain ⟨pa, ea⟩ : ∃ p, atP ts D a1 l (4 * (x : Int) + (((5 : Nat) : Int) - 1)) (4 * (y : Int) + ((j : Int) - 1)) = p := ⟨_, rfl⟩
  obtain ⟨pr, er⟩ : ∃ p, atP ts D a1 l (4 * (x : Int) + (((4 : Nat) : Int) - 1)) (4 * (y : Int) + ((j : Int) - 1)) = p := ⟨_, rfl⟩
  obtain ⟨pn, en⟩ : ∃ p, atP ts D a1 l (4 * (xr : Int) + (((1 : Nat) : Int) - 1)) (4 * (y : Int) + ((j : Int) - 1)) = p := ⟨_, rfl⟩
  obtain ⟨pk, ek⟩ : ∃ p, atP ts D a1 l (4 * (xr : Int) + (((0 : Nat) : Int) - 1)) (4 * (y : Int) + ((j : Int) - 1)) = p := ⟨_, rfl⟩
  have C1 := Lib.hid fun Z hR => (ea ▸ CT.out g4 cap4 x y 5 (by omega) hc4 Z hR : Calls Try.prog 30 #[.slice (some ⟨g4, 0, none⟩) 144 cap4, .int .i64 4, .int .i64 ((j : Int) - 1)] Z fun e w' => e = .returned (.tuple #[pa.v, .bool true]) ∧ Below Z.heap.size Z w')
  have EA := Lib.hid ea
  clear ea
  go_wp2_with fail
  refine (C1.out w5 hR7).mono ?_
  rintro e w6 ⟨rfl, hb6⟩
  have hS6 := (Below.refl w6.heap.size w6).alloc (Nat.le_refl _) (.cells pa.c 39)
  have hCa : blk (w6.alloc (.cells pa.c 39)) w6.heap.size = some (.cells pa.c 39 (0, 0)) := blk_alloc_at _ _ _ rfl
  have C2 := Lib.hid fun Z hR => (er ▸ CT.out g4 cap4 x y 4 (by omega) hc4 Z hR : Calls Try.prog 30 #[.slice (some ⟨g4, 0, none⟩) 144 cap4, .int .i64 3, .int .i64 ((j : Int) - 1)] Z fun e w' => e = .returned (.tuple #[pr.v, .bool true]) ∧ Below Z.heap.size Z w')
  have C3 := Lib.hid fun Z hR => (en ▸ CT.out g5 cap5 xr y 1 (by omega) hc5 Z hR : Calls Try.prog 30 #[.slice (some ⟨g5, 0, none⟩) 144 cap5, .int .i64 0, .int .i64 ((j : Int) - 1)] Z fun e w' => e = .returned (.tuple #[pn.v, .bool true]) ∧ Below Z.heap.size Z w')
  have C4 := Lib.hid fun Z hR => (ek ▸ CT.out g5 cap5 xr y 0 (by omega) hc5 Z hR : Calls Try.prog 30 #[.slice (some ⟨g5, 0, none⟩) 144 cap5, .int .i64 (-1), .int .i64 ((j : Int) - 1)] Z fun e w' => e = .returned (.tuple #[pk.v, .bool true]) ∧ Below Z.heap.size Z w')
  have ER := Lib.hid er
  have EN := Lib.hid en
  have EK := Lib.hid ek
  clear er en ek
  go_wp2_with fail
  refine (C2.out _ ((hR7.below hb6 (Nat.le_refl _)).below hS6 (Nat.le_refl _))).mono ?_
  rintro e w7 ⟨rfl, hb7⟩
  have B57 : Below w5.heap.size w5 w7 := hb6.trans ((hS6.trans (hb7.mono (by simp))).mono hb6.size)
  have hCa7 := bd_keep hCa hb7
  have hR7' := hR5.below B57 (Nat.le_refl _)
  have hG8 := bd_keep hG7 B57
  have L8 : Below w.heap.size w w7 := L7.trans (B57.mono L7.size)
  clear hR7 hR5 hG7 L7 B57 hb7 hCa hS6 hb6 hlt5
  have hS7 := (Below.refl w7.heap.size w7).alloc (Nat.le_refl _) (.cells pr.c 39)
  have hCr : blk (w7.alloc (.cells pr.c 39)) w7.heap.size = some (.cells pr.c 39 (0, 0)) := blk_alloc_at _ _ _ rfl
  go_wp2_with fail
  refine (C3.out _ (hR7'.below hS7 (Nat.le_refl _))).mono ?_
  rintro e w8 ⟨rfl, hb8⟩
  have B78 : Below w7.heap.size w7 w8 := hS7.trans (hb8.mono (by simp))
  have hCr8 := bd_keep hCr hb8
  have hCa8 := bd_keep hCa7 B78
  have hR8 := hR7'.below B78 (Nat.le_refl _)
  have hG9 := bd_keep hG8 B78
  have L9 : Below w.heap.size w w8 := L8.trans (B78.mono L8.size)
  clear hR7' hG8 L8 B78 hb8 hCr hS7 hCa7
  go_upto_region 19 with (fail)
  refine Rd.name_world ?_
  intro W3 hW3
  have B9 : Below w8.heap.size w8 W3 := by rw [hW3]; repeat' (first | (with_reducible exact Below.refl _ _) | (with_reducible refine Rd.below_step ?_ (by assumption)) | (with_reducible refine Rd.below_alloc ?_ _) | (with_reducible refine Rd.below_drewN ?_ _) | (with_reducible refine Below.drew ?_) | (with_reducible refine Below.setCell ?_ ?_ _) | (with_reducible refine Rd.below_setRow ?_ ?_ _) | go_size | (simp only [World.size_alloc]; omega) | omega)
  have cA := bd_keep hCa8 B9
  have cR := bd_keep hCr8 B9
  have cN : blk W3 w8.heap.size = some (.cells pn.c 39 (0, 0)) := by rw [hW3]; exact blk_alloc_at _ _ _ rfl
  have hG10 := bd_keep hG9 B9
  have k1 : W3.cell? ⟨w3.heap.size, 1, none⟩ = some (.int .i64 x) := by rw [blk_cell hG10]; first | done | rfl
  have L10 : Below w.heap.size w W3 := L9.trans (B9.mono L9.size)
  have hR9 := hR8.below B9 (Nat.le_refl _)
  clear hW3 hG9 hR8 L9 B9 hCa8 hCr8 hG10
  have hs : sd (D - l) = 4 * n := by rw [HN.out, HE.out]; rfl
  have hp : ∀ X X' Y : Int, along a1 (4 * n) X = along a1 (4 * n) X' → atP ts D a1 l X Y = atP ts D a1 l X' Y := by
    intro X X' Y h
    rw [atP_in hlD, atP_in hlD, hs, h]
  by_cases hc : a1 = false ∧ x + 1 = n
  · obtain ⟨rfl, hxe⟩ := hc
    have hEq : pa = pr := by
      rw [← EA.out, ← ER.out]
      refine hp _ _ _ ?_
      unfold along
      simp only [Bool.false_eq_true, if_false]
      omega
    subst hEq
    have hxe' : (x : Int) = (n : Int) - 1 := by omega
    clear hp
    go_wp2_with fail
    refine (CtH.awake_any _).mono ?_
    rintro e w9 ⟨rfl, hb9⟩
    go_wp2
    go_ret
    exact ⟨rfl, by repeat' (first | (with_reducible exact Below.refl _ _) | (with_reducible refine Rd.below_step ?_ (by assumption)) | (with_reducible refine Rd.below_alloc ?_ _) | (with_reducible refine Rd.below_drewN ?_ _) | (with_reducible refine Below.drew ?_) | (with_reducible refine Below.setCell ?_ ?_ _) | (with_reducible refine Rd.below_setRow ?_ ?_ _) | go_size | (simp only [World.size_alloc]; omega) | omega)⟩
  have hE1 : pa = pn := by
    rw [← EA.out, ← EN.out]
    refine hp _ _ _ ?_
    rcases hx2 with ⟨h1, h2⟩ | ⟨h1, h2⟩
    · congr 1; omega
    · have hw : a1 = true := by cases a1 <;> simp_all
      have z1 : 4 * (x : Int) + (((5 : Nat) : Int) - 1) = ((4 * n : Nat) : Int) := by omega
      have z2 : 4 * (xr : Int) + (((1 : Nat) : Int) - 1) = 0 := by omega
      rw [z1, z2, hw]
      unfold along
      simp
  have hE2 : pk = pr := by
    rw [← EK.out, ← ER.out]
    refine hp _ _ _ ?_
    rcases hx2 with ⟨h1, h2⟩ | ⟨h1, h2⟩
    · congr 1; omega
    · have hw : a1 = true := by cases a1 <;> simp_all
      have z1 : 4 * (x : Int) + (((4 : Nat) : Int) - 1) = 4 * (xr : Int) + (((0 : Nat) : Int) - 1) + ((4 * n : Nat) : Int) := by omega
      rw [z1, hw]
      unfold along
      simp
  subst hE1
  subst hE2
  clear hp
  cases a1 with
  | true =>
    go_wp2_with fail
    refine (C4.out _ hR9).mono ?_
    rintro e w9 ⟨rfl, hb9⟩
    have cA9 := bd_keep cA hb9
    have cR9 := bd_keep cR hb9
    have cN9 := bd_keep cN hb9
    have L11 : Below w.heap.size w w9 := L10.trans (hb9.mono L10.size)
    have la := blk_lt cA9
    have lr := blk_lt cR9
    have ln := blk_lt cN9
    clear hb9 cA cR cN L10 hR9 k1
    go_wp2_with fail
    refine (CtH.awake_any _).mono ?_
    rintro e w10 ⟨rfl, hb10⟩
    go_wp2
    go_ret
    exact ⟨rfl, by repeat' (first | (with_reducible exact Below.refl _ _) | (with_reducible refine Rd.below_step ?_ (by assumption)) | (with_reducible refine Rd.below_alloc ?_ _) | (with_reducible refine Rd.below_drewN ?_ _) | (with_reducible refine Below.drew ?_) | (with_reducible refine Below.setCell ?_ ?_ _) | (with_reducible refine Rd.below_setRow ?_ ?_ _) | go_size | (simp only [World.size_alloc]; omega) | omega)⟩
  | false =>
    have hxe : ¬ (x : Int) = (n : Int) - 1 := fun h => hc ⟨rfl, by omega⟩
    go_wp2_with fail
    refine (C4.out _ hR9).mono ?_
    rintro e w9 ⟨rfl, hb9⟩
    have cA9 := bd_keep cA hb9
    have cR9 := bd_keep cR hb9
    have cN9 := bd_keep cN hb9
    have L11 : Below w.heap.size w w9 := L10.trans (hb9.mono L10.size)
    have la := blk_lt cA9
    have lr := blk_lt cR9
    have ln := blk_lt cN9
    clear hb9 cA cR cN L10 hR9 k1
    go_wp2_with fail
    refine (CtH.awake_any _).mono ?_
    rintro e w10 ⟨rfl, hb10⟩
    go_wp2
    go_ret
    exact ⟨rfl, by repeat' (first | (with_reducible exact Below.refl _ _) | (with_reducible refine Rd.below_step ?_ (by assumption)) | (with_reducible refine Rd.below_alloc ?_ _) | (with_reducible refine Rd.below_drewN ?_ _) | (with_reducible refine Below.drew ?_) | (with_reducible refine Below.setCell ?_ ?_ _) | (with_reducible refine Rd.below_setRow ?_ ?_ _) | go_size | (simp only [World.size_alloc]; omega) | omega)⟩
end Go.Proofs.Ytdjiblgnealmkaa.CtI
