/-
  The law of package cut: all pages.
-/
import Derived.Test.YtdjiblgnealmkaaCtJ
namespace Go.Proofs.Ytdjiblgnealmkaa.CtK
open Go.RowKit Rd Go.Proofs.Ytdjiblgnealmkaa.Row Mid DkM HueA MpM MpA MpB MpC MpD MpE MpF MpG
open MpQ MpS MpT MpU
open CtA CtB CtC CtD CtE CtF CtG CtH CtJ
open PgC (eqL eq_pg3)
open Ints (i64s In64)
set_option linter.unusedVariables false
set_option linter.unusedSimpArgs false
set_option maxRecDepth 10000
attribute [local go_sem ↓] load_tex store_tex load_col store_col alloc_col PgA.store_pg eq_pg3
attribute [local go_sem] PgA.pc3 PgA.run_store_pg eq_px px_self Px.c_size Px.c_all c_all4 fold_px run_load_tex run_store_tex run_alloc_col CtB.run_load_col run_store_col rowStore_eq rowLoad_eq one_int one_bool one_sl blk_alloc_at blk_alloc_old blk_drew blk_drewN blk_grow setRow_alloc_at setRow_alloc_old setRow_drew setRow_drewN
set_option maxHeartbeats 8000000 in
theorem CutAll_walk (a0 : Int) (a1 : Bool) (a2 : Option Addr) (len2 cap2 : Nat) (x2 : List (List Value)) (w : World) (w0 : (Lit.int .i64 a0).wf = true) (w2 : Flat.IsRows [some .i64] w a2 len2 cap2 x2) :
    Calls Try.prog 8 #[.int .i64 a0, .bool a1, .slice a2 len2 cap2] w fun e w' => e = .returned (.bool true) ∧ Below w.heap.size w w' := by
  obtain ⟨zs, hzl, hz, hR, hlc, hcm, -⟩ := Ints.rows_row (s := 1) (by omega) w2
  obtain ⟨d1, d2⟩ := bounds_i64 w0
  clear w0 w2
  have hlen9 : len2 ≤ 9223372036854775807 := by have : maxLen = 9223372036854775807 := rfl; omega
  by_cases hb1 : 50 < len2
  · have hb1' : (50 : Int) < (len2 : Int) := by omega
    clear hR hzl
    go_enter Try.func8, Try.ntmps8
    go_wp2_with (go_at_call 27; refine (CtH.awake_any _).mono ?_; rintro e w3 ⟨rfl, hb⟩)
    go_ret
    exact ⟨rfl, hb⟩
  have hb1' : ¬ (50 : Int) < (len2 : Int) := by omega
  clear hzl
  go_enter Try.func8, Try.ntmps8
  go_wp2_with fail
  refine (Paint_any a0 a1 a2 len2 cap2 zs w d1 d2 hR hz (by omega)).mono ?_
  rintro e w1 ⟨⟨D, u, ts, -, hD3, rfl, hts, hRB, hou⟩, hb1⟩
  obtain ⟨q, hq⟩ : ∃ q, q = sd D * sd D := ⟨_, rfl⟩
  have hq0 : 0 < q := by rw [hq]; exact Nat.mul_pos (by have := sd_pos D; omega) (by have := sd_pos D; omega)
  rw [← hq] at hou hts
  obtain ⟨g, cap, rfl, hg0, hg1, hgc, hgm, -⟩ := owns_pos hou hq0
  have HQ := Lib.hid hq
  clear hq
  have hTB : blk (w1.alloc (.cells #[.int .i64 D, .bool a1, .slice (some ⟨g, 0, none⟩) q cap] 24)) w1.heap.size = some (.cells #[.int .i64 D, .bool a1, .slice (some ⟨g, 0, none⟩) q cap] 24 (0, 0)) := blk_alloc_at _ _ _ rfl
  have hB1 := (Below.refl w1.heap.size w1).alloc (Nat.le_refl _) (.cells #[.int .i64 D, .bool a1, .slice (some ⟨g, 0, none⟩) q cap] 24)
  have hRd := (Reads.of_owns hou).below hB1 (Nat.le_refl _)
  have hs1 := hb1.size
  go_wp2_with fail
  refine (Build_any a1 ⟨g, 0, none⟩ q cap _ hRd hD3 HQ.out hRB).mono ?_
  rintro e w2 ⟨⟨b, rfl, hb2lo, hP⟩, hb2⟩
  have L2 : Below w.heap.size w w2 := by repeat' (first | (with_reducible exact Below.refl _ _) | (with_reducible refine Rd.below_step ?_ (by assumption)) | (with_reducible refine Rd.below_alloc ?_ _) | (with_reducible refine Rd.below_drewN ?_ _) | (with_reducible refine Below.drew ?_) | (with_reducible refine Below.setCell ?_ ?_ _) | (with_reducible refine Rd.below_setRow ?_ ?_ _) | go_size | (simp only [World.size_alloc]; omega) | omega)
  have hT2 := bd_keep hTB hb2
  clear hTB hB1 hRd hou hR hb1 hb2 hb2lo
  go_wp2_with fail
  refine (lall_any b D a1 ts w2 hP).mono ?_
  rintro e w3 ⟨⟨xs, ad, c3, hx1, rfl, hx3, hx4⟩, hb3⟩
  have hI3 : Its ts D a1 ad xs w3 := ⟨hx3, fun x hx => .of (hx4 x hx)⟩
  have hP3 := hP.below hb3
  have hT3 := bd_keep hT2 hb3
  have cD3 : w3.cell? ⟨w1.heap.size, 0, none⟩ = some (.int .i64 D) := by rw [blk_cell hT3]; first | done | rfl
  have L3 : Below w.heap.size w w3 := L2.trans (hb3.mono L2.size)
  clear hx3 hx4 hb3 hP hT2 L2
  go_wp2_with fail
  refine (PgC.rpages_any (D : Int) w3).mono ?_
  rintro e w4 ⟨⟨pd, c4, rfl, hc4, hm4, hPg⟩, hb4⟩
  have hI4 := hI3.below hb4
  have hP4 := hP3.below hb4
  have L4 : Below w.heap.size w w4 := L3.trans (hb4.mono L3.size)
  clear hb4 hI3 hP3 hT3 cD3 L3
  obtain ⟨N, hN⟩ : ∃ N, (PgM.allV (D : Int)).length = N := ⟨_, rfl⟩
  have hN1 : 1 ≤ N ∧ N ≤ 85 := by
    rw [← hN]
    rcases (show D = 0 ∨ D = 1 ∨ D = 2 ∨ D = 3 by omega) with rfl | rfl | rfl | rfl <;> decide +kernel
  have hlx := fin_len hx1
  rw [hN] at hlx
  obtain ⟨pb, po, rfl, hpb, hpc⟩ : ∃ pb po, pd = some ⟨pb, po, none⟩ ∧ pb < w4.heap.size ∧ ∀ i, i < N → ∀ j, j < 3 → w4.cell? ⟨pb, po + i * 3 + j, none⟩ = some (.int .i64 (PgM.g (PgM.at_ (PgM.allV (D : Int)) i) j)) := by
    rcases hPg.2 with h | ⟨pb, po, h1, h2, h3⟩
    · rw [h] at hN; simp at hN; omega
    · exact ⟨pb, po, h1, h2, fun i hi j hj => h3 i (by omega) j hj⟩
  have HC : Hid (∀ i, i < N → ∃ L P Q : Int, PgM.validB D L P Q = true ∧ (∀ X, Its ts D a1 ad xs X → ∃ b o g c : Nat, ad = some ⟨b, o, none⟩ ∧ b < X.heap.size ∧ X.cell? ⟨b, o + i * 4, none⟩ = some (.int .i64 L) ∧ X.cell? ⟨b, o + i * 4 + 1, none⟩ = some (.int .i64 P) ∧ X.cell? ⟨b, o + i * 4 + 2, none⟩ = some (.int .i64 Q) ∧ X.cell? ⟨b, o + i * 4 + 3, none⟩ = some (.slice (some ⟨g, 0, none⟩) 144 c) ∧ 144 ≤ c ∧ Reads X 1 (some ⟨g, 0, none⟩) 144 (cp (pageP ts D a1 L P Q)))
      ∧ w4.cell? ⟨pb, po + i * 3, none⟩ = some (.int .i64 L) ∧ w4.cell? ⟨pb, po + i * 3 + 1, none⟩ = some (.int .i64 P) ∧ w4.cell? ⟨pb, po + i * 3 + 2, none⟩ = some (.int .i64 Q)) := Lib.hid (by
    intro i hi
    obtain ⟨L, P, Q, e1, e2, hv⟩ := Its.page hx1 hD3 (i := i) (by omega)
    have hp := hpc i hi
    rw [e2] at hp
    exact ⟨L, P, Q, hv, fun X hX => hX.at_ _ e1, hp 0 (by omega), hp 1 (by omega), hp 2 (by omega)⟩)
  have HI : Hid (∀ X, Below w4.heap.size w4 X → Its ts D a1 ad xs X ∧ Pyr X b D a1 ts) := Lib.hid fun X h => ⟨hI4.below h, hP4.below h⟩
  rw [hlx, hN]
  rw [hN] at hc4
  clear hlx hN hx1 hI4 hP4 hPg hpc hRB
  go_upto_region 12 with (fail)
  go_loopw [12] (fun q X => ∃ i : Nat, i ≤ N ∧ q = .int .i64 i ∧ Below w4.heap.size w4 X) (fun q _ => N - (intOf q).toNat)
  case atStart => exact ⟨0, by omega, rfl, by repeat' (first | (with_reducible exact Below.refl _ _) | (with_reducible refine Rd.below_step ?_ (by assumption)) | (with_reducible refine Rd.below_alloc ?_ _) | (with_reducible refine Rd.below_drewN ?_ _) | (with_reducible refine Below.drew ?_) | (with_reducible refine Below.setCell ?_ ?_ _) | (with_reducible refine Rd.below_setRow ?_ ?_ _) | go_size | (simp only [World.size_alloc]; omega) | omega)⟩
  case round =>
    obtain ⟨i, hi, rfl, hb⟩ := hrel
    rename World => X1
    have L8 : Below w.heap.size w X1 := L4.trans (hb.mono L4.size)
    by_cases hiN : i < N
    · have hiN' : (i : Int) < N := by omega
      obtain ⟨L, P, Q, hv, fA, p0, p1, p2⟩ := HC.out i hiN
      obtain ⟨v1, ⟨v2, v3⟩, ⟨v4, v5⟩, v6, v7⟩ := PgM.valid_yes hv
      have v8 := (PgM.sd_bd v2 v3 v1.2).2
      obtain ⟨hA, hP⟩ := HI.out X1 hb
      obtain ⟨bA, oA, gA, cA, rfl, lA, A0, A1, A2, A3, hcA, rA⟩ := fA X1 hA
      have k0 := (hb.cell (p := ⟨pb, po + i * 3, none⟩) hpb).trans p0
      have k1 := (hb.cell (p := ⟨pb, po + i * 3 + 1, none⟩) hpb).trans p1
      have k2 := (hb.cell (p := ⟨pb, po + i * 3 + 2, none⟩) hpb).trans p2
      have d0 : eqL [L, P, Q] [L, P, Q] = true := decide_eq_true rfl
      have HA : Hid (∀ X, Below X1.heap.size X1 X → X.cell? ⟨bA, oA + i * 4 + 3, none⟩ = some (.slice (some ⟨gA, 0, none⟩) 144 cA) ∧ X.cell? ⟨pb, po + i * 3, none⟩ = some (.int .i64 L) ∧ X.cell? ⟨pb, po + i * 3 + 1, none⟩ = some (.int .i64 P) ∧ X.cell? ⟨pb, po + i * 3 + 2, none⟩ = some (.int .i64 Q) ∧ Reads X 1 (some ⟨gA, 0, none⟩) 144 (cp (pageP ts D a1 L P Q)) ∧ Pyr X b D a1 ts ∧ pb < X.heap.size ∧ bA < X.heap.size) := Lib.hid fun X h => by
        have hz := hb.size
        have hy := h.size
        exact ⟨(h.cell (p := ⟨bA, oA + i * 4 + 3, none⟩) lA).trans A3, (h.cell (p := ⟨pb, po + i * 3, none⟩) (by show pb < _; omega)).trans k0, (h.cell (p := ⟨pb, po + i * 3 + 1, none⟩) (by show pb < _; omega)).trans k1, (h.cell (p := ⟨pb, po + i * 3 + 2, none⟩) (by show pb < _; omega)).trans k2, rA.below h (Nat.le_refl _), hP.below h, by omega, by omega⟩
      clear fA hA hP rA hv p0 p1 p2
      go_wp2
      go_quiet (fail)
      clear A0 A1 A2 A3 k0 k1 k2
      go_upto_region 17 with (fail)
      go_loopw [13] (fun q X => ∃ k : Nat, k ≤ 16 ∧ q = .int .i64 k ∧ Below X1.heap.size X1 X) (fun q _ => 16 - (intOf q).toNat)
      case atStart => exact ⟨0, by omega, rfl, Rd.below_drewN (Below.refl _ _) _⟩
      case round =>
        obtain ⟨k, hk, rfl, hbk⟩ := hrel
        rename World => X2
        by_cases hk16 : k < 16
        · have hk16' : (k : Int) < 16 := by omega
          obtain ⟨A3, k0, k1, k2, rA, hP, lp, lA2⟩ := HA.out X2 hbk
          obtain ⟨p, hp⟩ : ∃ p, atP ts D a1 L (4 * P + (k : Int) % 4) (4 * Q + (k : Int) / 4) = p := ⟨_, rfl⟩
          have CT : Hid (Calls Try.prog 30 #[.slice (some ⟨gA, 0, none⟩) 144 cA, .int .i64 ((k : Int) % 4), .int .i64 ((k : Int) / 4)] X2 fun e w' => e = .returned (.tuple #[p.v, .bool true]) ∧ Below X2.heap.size X2 w') := by
            have h := Texel_any gA 0 cA (pageP ts D a1 L P Q) (k % 4 + 1) (k / 4 + 1) X2 rA hcA (pageP_len L P Q) (by omega) (by omega)
            rw [pageP_at (by omega) (by omega), show (((k % 4 + 1 : Nat) : Int) - 1) = (k : Int) % 4 by omega, show (((k / 4 + 1 : Nat) : Int) - 1) = (k : Int) / 4 by omega, hp] at h
            exact Lib.hid h
          have CA : Hid (∀ X, Pyr X b D a1 ts → Calls Try.prog 17 #[.pointer (some ⟨b, 0, none⟩), .int .i64 L, .int .i64 (4 * P + (k : Int) % 4), .int .i64 (4 * Q + (k : Int) / 4)] X fun e w' => e = .returned p.v ∧ Below X.heap.size X w') := Lib.hid fun X hX => by
            have h := At_any L (4 * P + (k : Int) % 4) (4 * Q + (k : Int) / 4) X hX ⟨by omega, by omega⟩ ⟨by omega, by omega⟩
            rw [hp] at h
            exact h
          clear rA hP hp k0 k1 k2
          go_wp2_with fail
          refine CT.out.mono ?_
          rintro e w6 ⟨rfl, hb6⟩
          have b6 : Below X1.heap.size X1 w6 := hbk.trans (hb6.mono hbk.size)
          clear hb6 CT A3
          go_upto_region 20 with (fail)
          refine Rd.name_world ?_
          intro W hW
          have B6 : Below w6.heap.size w6 W := by rw [hW]; repeat' (first | (with_reducible exact Below.refl _ _) | (with_reducible refine Rd.below_step ?_ (by assumption)) | (with_reducible refine Rd.below_alloc ?_ _) | (with_reducible refine Rd.below_drewN ?_ _) | (with_reducible refine Below.drew ?_) | (with_reducible refine Below.setCell ?_ ?_ _) | (with_reducible refine Rd.below_setRow ?_ ?_ _) | go_size | (simp only [World.size_alloc]; omega) | omega)
          have bC : blk W w6.heap.size = some (.cells p.c 39 (0, 0)) := by rw [hW]; exact blk_alloc_at _ _ _ rfl
          have bW : Below X1.heap.size X1 W := b6.trans (B6.mono b6.size)
          have lC := blk_lt bC
          clear hW b6 B6 lp lA2
          obtain ⟨-, k0, k1, k2, -, hPW, lp, -⟩ := HA.out W bW
          refine PredT.region_of (W := W) (W.heap.size) (Nat.le_refl _) [] [
              fun _ => True] [
              PredT.At 0 (.bool true),
              PredT.At 0 (.bool false),
              PredT.At 0 (.bool false),
              PredT.At 0 (p.v),
              PredT.At 0 (.pointer (some ⟨b, 0, none⟩)),
              PredT.At 0 (.slice (some ⟨pb, po, none⟩) N c4),
              PredT.At 0 (.int .i64 i),
              PredT.At 0 (.pointer (some ⟨pb, po + i * 3, none⟩)),
              PredT.At 0 (.pointer (some ⟨pb, po + i * 3, none⟩)),
              PredT.At 0 (.int .i64 L),
              PredT.At 0 (.slice (some ⟨pb, po, none⟩) N c4),
              PredT.At 0 (.int .i64 i),
              PredT.At 0 (.pointer (some ⟨pb, po + i * 3, none⟩)),
              PredT.At 0 (.pointer (some ⟨pb, po + i * 3 + 1, none⟩)),
              PredT.At 0 (.int .i64 P),
              PredT.At 0 (.int .i64 (4 * P)),
              PredT.At 0 (.int .i64 k),
              PredT.At 0 (.int .i64 ((k : Int) % 4)),
              PredT.At 0 (.int .i64 (4 * P + (k : Int) % 4)),
              PredT.At 0 (.slice (some ⟨pb, po, none⟩) N c4),
              PredT.At 0 (.int .i64 i),
              PredT.At 0 (.pointer (some ⟨pb, po + i * 3, none⟩)),
              PredT.At 0 (.pointer (some ⟨pb, po + i * 3 + 2, none⟩)),
              PredT.At 0 (.int .i64 Q),
              PredT.At 0 (.int .i64 (4 * Q)),
              PredT.At 0 (.int .i64 k),
              PredT.At 0 (.int .i64 ((k : Int) / 4)),
              PredT.At 0 (.int .i64 (4 * Q + (k : Int) / 4)),
              PredT.At 0 (p.v),
              PredT.At 0 (.bool false),
              PredT.At 0 (.bool false)] (by kernel_rfl) (by kernel_rfl) (by kernel_rfl) (by decide) (by decide) ?_ ?_ ?_ ?_ ?_ ?_
          · exact ⟨PredT.at_stab _ _ _ _, PredT.at_stab _ _ _ _, PredT.at_stab _ _ _ _, PredT.at_stab _ _ _ _, PredT.at_stab _ _ _ _, PredT.at_stab _ _ _ _, PredT.at_stab _ _ _ _, PredT.at_stab _ _ _ _, PredT.at_stab _ _ _ _, PredT.at_stab _ _ _ _, PredT.at_stab _ _ _ _, PredT.at_stab _ _ _ _, PredT.at_stab _ _ _ _, PredT.at_stab _ _ _ _, PredT.at_stab _ _ _ _, PredT.at_stab _ _ _ _, PredT.at_stab _ _ _ _, PredT.at_stab _ _ _ _, PredT.at_stab _ _ _ _, PredT.at_stab _ _ _ _, PredT.at_stab _ _ _ _, PredT.at_stab _ _ _ _, PredT.at_stab _ _ _ _, PredT.at_stab _ _ _ _, PredT.at_stab _ _ _ _, PredT.at_stab _ _ _ _, PredT.at_stab _ _ _ _, PredT.at_stab _ _ _ _, PredT.at_stab _ _ _ _, PredT.at_stab _ _ _ _, PredT.at_stab _ _ _ _, trivial⟩
          · intro q hq
            rcases List.mem_cons.1 hq with rfl | hq
            · exact fun _ _ h _ => trivial
            cases hq
          · exact trivial
          · refine ⟨.inr ?_, .inr ?_, .inr ?_, .inr ?_, .inr ?_, .inr ?_, .inr ?_, .inr ?_, .inr ?_, .inr ?_, .inr ?_, .inr ?_, .inr ?_, .inr ?_, .inr ?_, .inr ?_, .inr ?_, .inr ?_, .inr ?_, .inr ?_, .inr ?_, .inr ?_, .inr ?_, .inr ?_, .inr ?_, .inr ?_, .inr ?_, .inr ?_, .inr ?_, .inr ?_, .inr ?_, trivial⟩
            · intro b9 X ph hE hd hn hS hV hI hF
              have r15 : b9.tmps[15]?.getD undef = .bool true := (hn 15 (by kernel_rfl)).trans rfl
              exact Pred.yields_run (v := .bool true) (Pred.wanted_none rfl) (by go_simp) ⟨Below.refl _ _, rfl, Nat.zero_le _⟩
            · intro b9 X ph hE hd hn hS hV hI hF
              obtain ⟨r87, j87⟩ : PredT.At 0 (.bool true) (b9.tmps[87]?.getD undef) X ph := hV 0 _ 87 rfl rfl (Pred.waits_near (by kernel_rfl) (by kernel_rfl))
              exact Pred.yields_run (v := .bool false) (Pred.wanted_none rfl) (by go_simp) ⟨Below.refl _ _, rfl, Nat.zero_le _⟩
            · intro b9 X ph hE hd hn hS hV hI hF
              obtain ⟨r88, j88⟩ : PredT.At 0 (.bool false) (b9.tmps[88]?.getD undef) X ph := hV 1 _ 88 rfl rfl (Pred.waits_near (by kernel_rfl) (by kernel_rfl))
              exact Pred.yields_run (v := .bool false) (Pred.wanted_none rfl) (by go_simp) ⟨Below.refl _ _, rfl, Nat.zero_le _⟩
            · intro b9 X ph hE hd hn hS hV hI hF
              have r14 : b9.tmps[14]?.getD undef = .pointer (some ⟨w6.heap.size, 0, none⟩) := (hn 14 (by kernel_rfl)).trans rfl
              obtain ⟨r89, j89⟩ : PredT.At 0 (.bool false) (b9.tmps[89]?.getD undef) X ph := hV 2 _ 89 rfl rfl (Pred.waits_near (by kernel_rfl) (by kernel_rfl))
              have hld := col_here ((blk_below hE _ lC).trans bC)
              exact Pred.yields_run (v := p.v) ((Pred.wanted_at (g := 2) (d := 89) (f := false) rfl rfl r89).trans rfl) (by go_simp) ⟨Below.refl _ _, rfl, Nat.zero_le _⟩
            · intro b9 X ph hE hd hn hS hV hI hF
              have r8 : b9.tmps[8]?.getD undef = .pointer (some ⟨b, 0, none⟩) := (hn 8 (by kernel_rfl)).trans rfl
              obtain ⟨r89, j89⟩ : PredT.At 0 (.bool false) (b9.tmps[89]?.getD undef) X ph := hV 2 _ 89 rfl rfl (Pred.waits_near (by kernel_rfl) (by kernel_rfl))
              exact Pred.yields_run (v := .pointer (some ⟨b, 0, none⟩)) ((Pred.wanted_at (g := 2) (d := 89) (f := false) rfl rfl r89).trans rfl) (by go_simp) ⟨Below.refl _ _, rfl, Nat.zero_le _⟩
            · intro b9 X ph hE hd hn hS hV hI hF
              have r11 : b9.tmps[11]?.getD undef = .slice (some ⟨pb, po, none⟩) N c4 := (hn 11 (by kernel_rfl)).trans rfl
              obtain ⟨r89, j89⟩ : PredT.At 0 (.bool false) (b9.tmps[89]?.getD undef) X ph := hV 2 _ 89 rfl rfl (Pred.waits_near (by kernel_rfl) (by kernel_rfl))
              exact Pred.yields_run (v := .slice (some ⟨pb, po, none⟩) N c4) ((Pred.wanted_at (g := 2) (d := 89) (f := false) rfl rfl r89).trans rfl) (by go_simp) ⟨Below.refl _ _, rfl, Nat.zero_le _⟩
            · intro b9 X ph hE hd hn hS hV hI hF
              have r12 : b9.tmps[12]?.getD undef = .int .i64 i := (hn 12 (by kernel_rfl)).trans rfl
              obtain ⟨r89, j89⟩ : PredT.At 0 (.bool false) (b9.tmps[89]?.getD undef) X ph := hV 2 _ 89 rfl rfl (Pred.waits_near (by kernel_rfl) (by kernel_rfl))
              exact Pred.yields_run (v := .int .i64 i) ((Pred.wanted_at (g := 2) (d := 89) (f := false) rfl rfl r89).trans rfl) (by go_simp) ⟨Below.refl _ _, rfl, Nat.zero_le _⟩
            · intro b9 X ph hE hd hn hS hV hI hF
              obtain ⟨r92, j92⟩ : PredT.At 0 (.slice (some ⟨pb, po, none⟩) N c4) (b9.tmps[92]?.getD undef) X ph := hV 5 _ 92 rfl rfl (Pred.waits_near (by kernel_rfl) (by kernel_rfl))
              obtain ⟨r93, j93⟩ : PredT.At 0 (.int .i64 i) (b9.tmps[93]?.getD undef) X ph := hV 6 _ 93 rfl rfl (Pred.waits_near (by kernel_rfl) (by kernel_rfl))
              obtain ⟨r89, j89⟩ : PredT.At 0 (.bool false) (b9.tmps[89]?.getD undef) X ph := hV 2 _ 89 rfl rfl (Pred.waits_near (by kernel_rfl) (by kernel_rfl))
              exact Pred.yields_run (v := .pointer (some ⟨pb, po + i * 3, none⟩)) ((Pred.wanted_at (g := 2) (d := 89) (f := false) rfl rfl r89).trans rfl) (by go_simp) ⟨Below.refl _ _, rfl, Nat.zero_le _⟩
            · intro b9 X ph hE hd hn hS hV hI hF
              obtain ⟨r94, j94⟩ : PredT.At 0 (.pointer (some ⟨pb, po + i * 3, none⟩)) (b9.tmps[94]?.getD undef) X ph := hV 7 _ 94 rfl rfl (Pred.waits_near (by kernel_rfl) (by kernel_rfl))
              obtain ⟨r89, j89⟩ : PredT.At 0 (.bool false) (b9.tmps[89]?.getD undef) X ph := hV 2 _ 89 rfl rfl (Pred.waits_near (by kernel_rfl) (by kernel_rfl))
              exact Pred.yields_run (v := .pointer (some ⟨pb, po + i * 3, none⟩)) ((Pred.wanted_at (g := 2) (d := 89) (f := false) rfl rfl r89).trans rfl) (by go_simp) ⟨Below.refl _ _, rfl, Nat.zero_le _⟩
            · intro b9 X ph hE hd hn hS hV hI hF
              obtain ⟨r95, j95⟩ : PredT.At 0 (.pointer (some ⟨pb, po + i * 3, none⟩)) (b9.tmps[95]?.getD undef) X ph := hV 8 _ 95 rfl rfl (Pred.waits_near (by kernel_rfl) (by kernel_rfl))
              obtain ⟨r89, j89⟩ : PredT.At 0 (.bool false) (b9.tmps[89]?.getD undef) X ph := hV 2 _ 89 rfl rfl (Pred.waits_near (by kernel_rfl) (by kernel_rfl))
              have z9 := (hE.cell (p := ⟨pb, po + i * 3, none⟩) lp).trans k0
              exact Pred.yields_run (v := .int .i64 L) ((Pred.wanted_at (g := 2) (d := 89) (f := false) rfl rfl r89).trans rfl) (by go_simp) ⟨Below.refl _ _, rfl, Nat.zero_le _⟩
            · intro b9 X ph hE hd hn hS hV hI hF
              have r11 : b9.tmps[11]?.getD undef = .slice (some ⟨pb, po, none⟩) N c4 := (hn 11 (by kernel_rfl)).trans rfl
              obtain ⟨r89, j89⟩ : PredT.At 0 (.bool false) (b9.tmps[89]?.getD undef) X ph := hV 2 _ 89 rfl rfl (Pred.waits_near (by kernel_rfl) (by kernel_rfl))
              exact Pred.yields_run (v := .slice (some ⟨pb, po, none⟩) N c4) ((Pred.wanted_at (g := 2) (d := 89) (f := false) rfl rfl r89).trans rfl) (by go_simp) ⟨Below.refl _ _, rfl, Nat.zero_le _⟩
            · intro b9 X ph hE hd hn hS hV hI hF
              have r12 : b9.tmps[12]?.getD undef = .int .i64 i := (hn 12 (by kernel_rfl)).trans rfl
              obtain ⟨r89, j89⟩ : PredT.At 0 (.bool false) (b9.tmps[89]?.getD undef) X ph := hV 2 _ 89 rfl rfl (Pred.waits_near (by kernel_rfl) (by kernel_rfl))
              exact Pred.yields_run (v := .int .i64 i) ((Pred.wanted_at (g := 2) (d := 89) (f := false) rfl rfl r89).trans rfl) (by go_simp) ⟨Below.refl _ _, rfl, Nat.zero_le _⟩
            · intro b9 X ph hE hd hn hS hV hI hF
              obtain ⟨r97, j97⟩ : PredT.At 0 (.slice (some ⟨pb, po, none⟩) N c4) (b9.tmps[97]?.getD undef) X ph := hV 10 _ 97 rfl rfl (Pred.waits_near (by kernel_rfl) (by kernel_rfl))
              obtain ⟨r98, j98⟩ : PredT.At 0 (.int .i64 i) (b9.tmps[98]?.getD undef) X ph := hV 11 _ 98 rfl rfl (Pred.waits_near (by kernel_rfl) (by kernel_rfl))
              obtain ⟨r89, j89⟩ : PredT.At 0 (.bool false) (b9.tmps[89]?.getD undef) X ph := hV 2 _ 89 rfl rfl (Pred.waits_near (by kernel_rfl) (by kernel_rfl))
              exact Pred.yields_run (v := .pointer (some ⟨pb, po + i * 3, none⟩)) ((Pred.wanted_at (g := 2) (d := 89) (f := false) rfl rfl r89).trans rfl) (by go_simp) ⟨Below.refl _ _, rfl, Nat.zero_le _⟩
            · intro b9 X ph hE hd hn hS hV hI hF
              obtain ⟨r99, j99⟩ : PredT.At 0 (.pointer (some ⟨pb, po + i * 3, none⟩)) (b9.tmps[99]?.getD undef) X ph := hV 12 _ 99 rfl rfl (Pred.waits_near (by kernel_rfl) (by kernel_rfl))
              obtain ⟨r89, j89⟩ : PredT.At 0 (.bool false) (b9.tmps[89]?.getD undef) X ph := hV 2 _ 89 rfl rfl (Pred.waits_near (by kernel_rfl) (by kernel_rfl))
              exact Pred.yields_run (v := .pointer (some ⟨pb, po + i * 3 + 1, none⟩)) ((Pred.wanted_at (g := 2) (d := 89) (f := false) rfl rfl r89).trans rfl) (by go_simp) ⟨Below.refl _ _, rfl, Nat.zero_le _⟩
            · intro b9 X ph hE hd hn hS hV hI hF
              obtain ⟨r100, j100⟩ : PredT.At 0 (.pointer (some ⟨pb, po + i * 3 + 1, none⟩)) (b9.tmps[100]?.getD undef) X ph := hV 13 _ 100 rfl rfl (Pred.waits_near (by kernel_rfl) (by kernel_rfl))
              obtain ⟨r89, j89⟩ : PredT.At 0 (.bool false) (b9.tmps[89]?.getD undef) X ph := hV 2 _ 89 rfl rfl (Pred.waits_near (by kernel_rfl) (by kernel_rfl))
              have z9 := (hE.cell (p := ⟨pb, po + i * 3 + 1, none⟩) lp).trans k1
              exact Pred.yields_run (v := .int .i64 P) ((Pred.wanted_at (g := 2) (d := 89) (f := false) rfl rfl r89).trans rfl) (by go_simp) ⟨Below.refl _ _, rfl, Nat.zero_le _⟩
            · intro b9 X ph hE hd hn hS hV hI hF
              obtain ⟨r101, j101⟩ : PredT.At 0 (.int .i64 P) (b9.tmps[101]?.getD undef) X ph := hV 14 _ 101 rfl rfl (Pred.waits_near (by kernel_rfl) (by kernel_rfl))
              obtain ⟨r89, j89⟩ : PredT.At 0 (.bool false) (b9.tmps[89]?.getD undef) X ph := hV 2 _ 89 rfl rfl (Pred.waits_near (by kernel_rfl) (by kernel_rfl))
              have h7 := IntWalk.i64_in (4 * P) (by omega)
              exact Pred.yields_run (v := .int .i64 (4 * P)) ((Pred.wanted_at (g := 2) (d := 89) (f := false) rfl rfl r89).trans rfl) (by go_simp) ⟨Below.refl _ _, rfl, Nat.zero_le _⟩
            · intro b9 X ph hE hd hn hS hV hI hF
              have r13 : b9.tmps[13]?.getD undef = .int .i64 k := (hn 13 (by kernel_rfl)).trans rfl
              obtain ⟨r89, j89⟩ : PredT.At 0 (.bool false) (b9.tmps[89]?.getD undef) X ph := hV 2 _ 89 rfl rfl (Pred.waits_near (by kernel_rfl) (by kernel_rfl))
              exact Pred.yields_run (v := .int .i64 k) ((Pred.wanted_at (g := 2) (d := 89) (f := false) rfl rfl r89).trans rfl) (by go_simp) ⟨Below.refl _ _, rfl, Nat.zero_le _⟩
            · intro b9 X ph hE hd hn hS hV hI hF
              obtain ⟨r103, j103⟩ : PredT.At 0 (.int .i64 k) (b9.tmps[103]?.getD undef) X ph := hV 16 _ 103 rfl rfl (Pred.waits_near (by kernel_rfl) (by kernel_rfl))
              obtain ⟨r89, j89⟩ : PredT.At 0 (.bool false) (b9.tmps[89]?.getD undef) X ph := hV 2 _ 89 rfl rfl (Pred.waits_near (by kernel_rfl) (by kernel_rfl))
              have h7 := IntWalk.i64_in ((k : Int) % 4) (by omega)
              have h9 := Int.tmod_eq_emod_of_nonneg (a := (k : Int)) (b := 4) (by omega)
              exact Pred.yields_run (v := .int .i64 ((k : Int) % 4)) ((Pred.wanted_at (g := 2) (d := 89) (f := false) rfl rfl r89).trans rfl) (by go_simp) ⟨Below.refl _ _, rfl, Nat.zero_le _⟩
            · intro b9 X ph hE hd hn hS hV hI hF
              obtain ⟨r102, j102⟩ : PredT.At 0 (.int .i64 (4 * P)) (b9.tmps[102]?.getD undef) X ph := hV 15 _ 102 rfl rfl (Pred.waits_near (by kernel_rfl) (by kernel_rfl))
              obtain ⟨r104, j104⟩ : PredT.At 0 (.int .i64 ((k : Int) % 4)) (b9.tmps[104]?.getD undef) X ph := hV 17 _ 104 rfl rfl (Pred.waits_near (by kernel_rfl) (by kernel_rfl))
              obtain ⟨r89, j89⟩ : PredT.At 0 (.bool false) (b9.tmps[89]?.getD undef) X ph := hV 2 _ 89 rfl rfl (Pred.waits_near (by kernel_rfl) (by kernel_rfl))
              have h7 := IntWalk.i64_in (4 * P + (k : Int) % 4) (by omega)
              exact Pred.yields_run (v := .int .i64 (4 * P + (k : Int) % 4)) ((Pred.wanted_at (g := 2) (d := 89) (f := false) rfl rfl r89).trans rfl) (by go_simp) ⟨Below.refl _ _, rfl, Nat.zero_le _⟩
            · intro b9 X ph hE hd hn hS hV hI hF
              have r11 : b9.tmps[11]?.getD undef = .slice (some ⟨pb, po, none⟩) N c4 := (hn 11 (by kernel_rfl)).trans rfl
              obtain ⟨r89, j89⟩ : PredT.At 0 (.bool false) (b9.tmps[89]?.getD undef) X ph := hV 2 _ 89 rfl rfl (Pred.waits_near (by kernel_rfl) (by kernel_rfl))
              exact Pred.yields_run (v := .slice (some ⟨pb, po, none⟩) N c4) ((Pred.wanted_at (g := 2) (d := 89) (f := false) rfl rfl r89).trans rfl) (by go_simp) ⟨Below.refl _ _, rfl, Nat.zero_le _⟩
            · intro b9 X ph hE hd hn hS hV hI hF
              have r12 : b9.tmps[12]?.getD undef = .int .i64 i := (hn 12 (by kernel_rfl)).trans rfl
              obtain ⟨r89, j89⟩ : PredT.At 0 (.bool false) (b9.tmps[89]?.getD undef) X ph := hV 2 _ 89 rfl rfl (Pred.waits_near (by kernel_rfl) (by kernel_rfl))
              exact Pred.yields_run (v := .int .i64 i) ((Pred.wanted_at (g := 2) (d := 89) (f := false) rfl rfl r89).trans rfl) (by go_simp) ⟨Below.refl _ _, rfl, Nat.zero_le _⟩
            · intro b9 X ph hE hd hn hS hV hI hF
              obtain ⟨r106, j106⟩ : PredT.At 0 (.slice (some ⟨pb, po, none⟩) N c4) (b9.tmps[106]?.getD undef) X ph := hV 19 _ 106 rfl rfl (Pred.waits_near (by kernel_rfl) (by kernel_rfl))
              obtain ⟨r107, j107⟩ : PredT.At 0 (.int .i64 i) (b9.tmps[107]?.getD undef) X ph := hV 20 _ 107 rfl rfl (Pred.waits_near (by kernel_rfl) (by kernel_rfl))
              obtain ⟨r89, j89⟩ : PredT.At 0 (.bool false) (b9.tmps[89]?.getD undef) X ph := hV 2 _ 89 rfl rfl (Pred.waits_near (by kernel_rfl) (by kernel_rfl))
              exact Pred.yields_run (v := .pointer (some ⟨pb, po + i * 3, none⟩)) ((Pred.wanted_at (g := 2) (d := 89) (f := false) rfl rfl r89).trans rfl) (by go_simp) ⟨Below.refl _ _, rfl, Nat.zero_le _⟩
            · intro b9 X ph hE hd hn hS hV hI hF
              obtain ⟨r108, j108⟩ : PredT.At 0 (.pointer (some ⟨pb, po + i * 3, none⟩)) (b9.tmps[108]?.getD undef) X ph := hV 21 _ 108 rfl rfl (Pred.waits_near (by kernel_rfl) (by kernel_rfl))
              obtain ⟨r89, j89⟩ : PredT.At 0 (.bool false) (b9.tmps[89]?.getD undef) X ph := hV 2 _ 89 rfl rfl (Pred.waits_near (by kernel_rfl) (by kernel_rfl))
              exact Pred.yields_run (v := .pointer (some ⟨pb, po + i * 3 + 2, none⟩)) ((Pred.wanted_at (g := 2) (d := 89) (f := false) rfl rfl r89).trans rfl) (by go_simp) ⟨Below.refl _ _, rfl, Nat.zero_le _⟩
            · intro b9 X ph hE hd hn hS hV hI hF
              obtain ⟨r109, j109⟩ : PredT.At 0 (.pointer (some ⟨pb, po + i * 3 + 2, none⟩)) (b9.tmps[109]?.getD undef) X ph := hV 22 _ 109 rfl rfl (Pred.waits_near (by kernel_rfl) (by kernel_rfl))
              obtain ⟨r89, j89⟩ : PredT.At 0 (.bool false) (b9.tmps[89]?.getD undef) X ph := hV 2 _ 89 rfl rfl (Pred.waits_near (by kernel_rfl) (by kernel_rfl))
              have z9 := (hE.cell (p := ⟨pb, po + i * 3 + 2, none⟩) lp).trans k2
              exact Pred.yields_run (v := .int .i64 Q) ((Pred.wanted_at (g := 2) (d := 89) (f := false) rfl rfl r89).trans rfl) (by go_simp) ⟨Below.refl _ _, rfl, Nat.zero_le _⟩
            · intro b9 X ph hE hd hn hS hV hI hF
              obtain ⟨r110, j110⟩ : PredT.At 0 (.int .i64 Q) (b9.tmps[110]?.getD undef) X ph := hV 23 _ 110 rfl rfl (Pred.waits_near (by kernel_rfl) (by kernel_rfl))
              obtain ⟨r89, j89⟩ : PredT.At 0 (.bool false) (b9.tmps[89]?.getD undef) X ph := hV 2 _ 89 rfl rfl (Pred.waits_near (by kernel_rfl) (by kernel_rfl))
              have h7 := IntWalk.i64_in (4 * Q) (by omega)
              exact Pred.yields_run (v := .int .i64 (4 * Q)) ((Pred.wanted_at (g := 2) (d := 89) (f := false) rfl rfl r89).trans rfl) (by go_simp) ⟨Below.refl _ _, rfl, Nat.zero_le _⟩
            · intro b9 X ph hE hd hn hS hV hI hF
              have r13 : b9.tmps[13]?.getD undef = .int .i64 k := (hn 13 (by kernel_rfl)).trans rfl
              obtain ⟨r89, j89⟩ : PredT.At 0 (.bool false) (b9.tmps[89]?.getD undef) X ph := hV 2 _ 89 rfl rfl (Pred.waits_near (by kernel_rfl) (by kernel_rfl))
              exact Pred.yields_run (v := .int .i64 k) ((Pred.wanted_at (g := 2) (d := 89) (f := false) rfl rfl r89).trans rfl) (by go_simp) ⟨Below.refl _ _, rfl, Nat.zero_le _⟩
            · intro b9 X ph hE hd hn hS hV hI hF
              obtain ⟨r112, j112⟩ : PredT.At 0 (.int .i64 k) (b9.tmps[112]?.getD undef) X ph := hV 25 _ 112 rfl rfl (Pred.waits_near (by kernel_rfl) (by kernel_rfl))
              obtain ⟨r89, j89⟩ : PredT.At 0 (.bool false) (b9.tmps[89]?.getD undef) X ph := hV 2 _ 89 rfl rfl (Pred.waits_near (by kernel_rfl) (by kernel_rfl))
              have h7 := IntWalk.i64_in ((k : Int) / 4) (by omega)
              have h9 := Int.tdiv_eq_ediv_of_nonneg (a := (k : Int)) (b := 4) (by omega)
              exact Pred.yields_run (v := .int .i64 ((k : Int) / 4)) ((Pred.wanted_at (g := 2) (d := 89) (f := false) rfl rfl r89).trans rfl) (by go_simp) ⟨Below.refl _ _, rfl, Nat.zero_le _⟩
            · intro b9 X ph hE hd hn hS hV hI hF
              obtain ⟨r111, j111⟩ : PredT.At 0 (.int .i64 (4 * Q)) (b9.tmps[111]?.getD undef) X ph := hV 24 _ 111 rfl rfl (Pred.waits_near (by kernel_rfl) (by kernel_rfl))
              obtain ⟨r113, j113⟩ : PredT.At 0 (.int .i64 ((k : Int) / 4)) (b9.tmps[113]?.getD undef) X ph := hV 26 _ 113 rfl rfl (Pred.waits_near (by kernel_rfl) (by kernel_rfl))
              obtain ⟨r89, j89⟩ : PredT.At 0 (.bool false) (b9.tmps[89]?.getD undef) X ph := hV 2 _ 89 rfl rfl (Pred.waits_near (by kernel_rfl) (by kernel_rfl))
              have h7 := IntWalk.i64_in (4 * Q + (k : Int) / 4) (by omega)
              exact Pred.yields_run (v := .int .i64 (4 * Q + (k : Int) / 4)) ((Pred.wanted_at (g := 2) (d := 89) (f := false) rfl rfl r89).trans rfl) (by go_simp) ⟨Below.refl _ _, rfl, Nat.zero_le _⟩
            · intro b9 X ph hE hd hn hS hV hI hF
              obtain ⟨r91, j91⟩ : PredT.At 0 (.pointer (some ⟨b, 0, none⟩)) (b9.tmps[91]?.getD undef) X ph := hV 4 _ 91 rfl rfl (Pred.waits_near (by kernel_rfl) (by kernel_rfl))
              obtain ⟨r96, j96⟩ : PredT.At 0 (.int .i64 L) (b9.tmps[96]?.getD undef) X ph := hV 9 _ 96 rfl rfl (Pred.waits_near (by kernel_rfl) (by kernel_rfl))
              obtain ⟨r105, j105⟩ : PredT.At 0 (.int .i64 (4 * P + (k : Int) % 4)) (b9.tmps[105]?.getD undef) X ph := hV 18 _ 105 rfl rfl (Pred.waits_near (by kernel_rfl) (by kernel_rfl))
              obtain ⟨r114, j114⟩ : PredT.At 0 (.int .i64 (4 * Q + (k : Int) / 4)) (b9.tmps[114]?.getD undef) X ph := hV 27 _ 114 rfl rfl (Pred.waits_near (by kernel_rfl) (by kernel_rfl))
              obtain ⟨r89, j89⟩ : PredT.At 0 (.bool false) (b9.tmps[89]?.getD undef) X ph := hV 2 _ 89 rfl rfl (Pred.waits_near (by kernel_rfl) (by kernel_rfl))
              refine Pred.yields_call (f := 17) (args := #[.pointer (some ⟨b, 0, none⟩), .int .i64 L, .int .i64 (4 * P + (k : Int) % 4), .int .i64 (4 * Q + (k : Int) / 4)]) ((Pred.wanted_at (g := 2) (d := 89) (f := false) rfl rfl r89).trans rfl) (by go_simp) ?_
              refine (CA.out X (hPW.below hE)).mono ?_
              rintro e w9 ⟨rfl, hb⟩
              exact ⟨_, rfl, hb, rfl, Nat.zero_le _⟩
            · intro b9 X ph hE hd hn hS hV hI hF
              obtain ⟨r90, j90⟩ : PredT.At 0 (p.v) (b9.tmps[90]?.getD undef) X ph := hV 3 _ 90 rfl rfl (Pred.waits_near (by kernel_rfl) (by kernel_rfl))
              obtain ⟨r115, j115⟩ : PredT.At 0 (p.v) (b9.tmps[115]?.getD undef) X ph := hV 28 _ 115 rfl rfl (Pred.waits_near (by kernel_rfl) (by kernel_rfl))
              obtain ⟨r89, j89⟩ : PredT.At 0 (.bool false) (b9.tmps[89]?.getD undef) X ph := hV 2 _ 89 rfl rfl (Pred.waits_near (by kernel_rfl) (by kernel_rfl))
              exact Pred.yields_run (v := .bool false) ((Pred.wanted_at (g := 2) (d := 89) (f := false) rfl rfl r89).trans rfl) (by go_simp) ⟨Below.refl _ _, rfl, Nat.zero_le _⟩
            · intro b9 X ph hE hd hn hS hV hI hF
              obtain ⟨r89, j89⟩ : PredT.At 0 (.bool false) (b9.tmps[89]?.getD undef) X ph := hV 2 _ 89 rfl rfl (Pred.waits_near (by kernel_rfl) (by kernel_rfl))
              obtain ⟨r116, j116⟩ : PredT.At 0 (.bool false) (b9.tmps[116]?.getD undef) X ph := hV 29 _ 116 rfl rfl (Pred.waits_near (by kernel_rfl) (by kernel_rfl))
              exact Pred.yields_run (v := .bool false) (Pred.wanted_none rfl) (by go_simp) ⟨Below.refl _ _, rfl, Nat.zero_le _⟩
          · trivial
          intro v X hE hS hv
          replace hS : (fun _ => True) X := hS
          have e0 : v 0 = .bool true := (hv 0 _ 87 rfl rfl).1
          have e1 : v 1 = .bool false := (hv 1 _ 88 rfl rfl).1
          have e2 : v 2 = .bool false := (hv 2 _ 89 rfl rfl).1
          have e3 : v 3 = p.v := (hv 3 _ 90 rfl rfl).1
          have e4 : v 4 = .pointer (some ⟨b, 0, none⟩) := (hv 4 _ 91 rfl rfl).1
          have e5 : v 5 = .slice (some ⟨pb, po, none⟩) N c4 := (hv 5 _ 92 rfl rfl).1
          have e6 : v 6 = .int .i64 i := (hv 6 _ 93 rfl rfl).1
          have e7 : v 7 = .pointer (some ⟨pb, po + i * 3, none⟩) := (hv 7 _ 94 rfl rfl).1
          have e8 : v 8 = .pointer (some ⟨pb, po + i * 3, none⟩) := (hv 8 _ 95 rfl rfl).1
          have e9 : v 9 = .int .i64 L := (hv 9 _ 96 rfl rfl).1
          have e10 : v 10 = .slice (some ⟨pb, po, none⟩) N c4 := (hv 10 _ 97 rfl rfl).1
          have e11 : v 11 = .int .i64 i := (hv 11 _ 98 rfl rfl).1
          have e12 : v 12 = .pointer (some ⟨pb, po + i * 3, none⟩) := (hv 12 _ 99 rfl rfl).1
          have e13 : v 13 = .pointer (some ⟨pb, po + i * 3 + 1, none⟩) := (hv 13 _ 100 rfl rfl).1
          have e14 : v 14 = .int .i64 P := (hv 14 _ 101 rfl rfl).1
          have e15 : v 15 = .int .i64 (4 * P) := (hv 15 _ 102 rfl rfl).1
          have e16 : v 16 = .int .i64 k := (hv 16 _ 103 rfl rfl).1
          have e17 : v 17 = .int .i64 ((k : Int) % 4) := (hv 17 _ 104 rfl rfl).1
          have e18 : v 18 = .int .i64 (4 * P + (k : Int) % 4) := (hv 18 _ 105 rfl rfl).1
          have e19 : v 19 = .slice (some ⟨pb, po, none⟩) N c4 := (hv 19 _ 106 rfl rfl).1
          have e20 : v 20 = .int .i64 i := (hv 20 _ 107 rfl rfl).1
          have e21 : v 21 = .pointer (some ⟨pb, po + i * 3, none⟩) := (hv 21 _ 108 rfl rfl).1
          have e22 : v 22 = .pointer (some ⟨pb, po + i * 3 + 2, none⟩) := (hv 22 _ 109 rfl rfl).1
          have e23 : v 23 = .int .i64 Q := (hv 23 _ 110 rfl rfl).1
          have e24 : v 24 = .int .i64 (4 * Q) := (hv 24 _ 111 rfl rfl).1
          have e25 : v 25 = .int .i64 k := (hv 25 _ 112 rfl rfl).1
          have e26 : v 26 = .int .i64 ((k : Int) / 4) := (hv 26 _ 113 rfl rfl).1
          have e27 : v 27 = .int .i64 (4 * Q + (k : Int) / 4) := (hv 27 _ 114 rfl rfl).1
          have e28 : v 28 = p.v := (hv 28 _ 115 rfl rfl).1
          have e29 : v 29 = .bool false := (hv 29 _ 116 rfl rfl).1
          have e30 : v 30 = .bool false := (hv 30 _ 117 rfl rfl).1
          simp only [Pred.putsF_cons, Pred.putsF_nil, Nat.zero_add, Nat.reduceAdd, e0, e1, e2, e3, e4, e5, e6, e7, e8, e9, e10, e11, e12, e13, e14, e15, e16, e17, e18, e19, e20, e21, e22, e23, e24, e25, e26, e27, e28, e29, e30, Act.put, List.setIfInBounds_toArray, List.set_cons_zero, List.set_cons_succ]
          clear e0 e1 e2 e3 e4 e5 e6 e7 e8 e9 e10 e11 e12 e13 e14 e15 e16 e17 e18 e19 e20 e21 e22 e23 e24 e25 e26 e27 e28 e29 e30 hv
          have bX : Below X1.heap.size X1 X := bW.trans (hE.mono bW.size)
          clear hE hPW bC bW k0 k1 k2
          go_wp2
          exact ⟨⟨k + 1, by omega, by go_num, bX⟩, by simp [intOf]; omega⟩
        · obtain rfl : k = 16 := by omega
          go_wp2
          exact ⟨⟨i + 1, by omega, by go_num, hb.trans (hbk.mono hb.size)⟩, by simp [intOf]; omega⟩
    · obtain rfl : i = N := by omega
      clear HC HI
      go_wp2_with fail
      refine (CtH.awake_any _).mono ?_
      rintro e w10 ⟨rfl, hb10⟩
      go_wp2
      go_ret
      exact ⟨rfl, by repeat' (first | (with_reducible exact Below.refl _ _) | (with_reducible refine Rd.below_step ?_ (by assumption)) | (with_reducible refine Rd.below_alloc ?_ _) | (with_reducible refine Rd.below_drewN ?_ _) | (with_reducible refine Below.drew ?_) | (with_reducible refine Below.setCell ?_ ?_ _) | (with_reducible refine Rd.below_setRow ?_ ?_ _) | go_size | (simp only [World.size_alloc]; omega) | omega)⟩
end Go.Proofs.Ytdjiblgnealmkaa.CtK
