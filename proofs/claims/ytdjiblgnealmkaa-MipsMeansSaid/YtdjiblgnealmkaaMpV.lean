/-
  The law of package mips: each texel is between those that it covers.
-/
import Derived.Test.YtdjiblgnealmkaaMpU
namespace Go.Proofs.Ytdjiblgnealmkaa.MpV
open Go.RowKit Rd Go.Proofs.Ytdjiblgnealmkaa.Row Mid DkM HueA MpM MpA MpB MpC MpD MpE MpF MpG
open MpP (at17 round17)
open MpQ MpS MpT MpU
open Ints (i64s In64)
set_option linter.unusedVariables false
set_option linter.unusedSimpArgs false
set_option maxRecDepth 10000
/-- a texel's byte -/
def nth (p : Px) : Nat → Int
  | 0 => p.r
  | 1 => p.g
  | 2 => p.b
  | _ => p.a
theorem nth_c (p : Px) {b : Nat} (hb : b < 4) : p.c[b]? = some (.int .u8 (nth p b)) := by
  rcases (show b = 0 ∨ b = 1 ∨ b = 2 ∨ b = 3 by omega) with rfl | rfl | rfl | rfl <;> rfl
theorem nth_B {p : Px} (h : p.B) (b : Nat) : B8 (nth p b) := by
  obtain ⟨h1, h2, h3, h4⟩ := h
  unfold nth
  split <;> assumption
theorem nth_mean (p q r s : Px) (b : Nat) : nth (mean p q r s) b = meanB (nth p b) (nth q b) (nth r b) (nth s b) := by
  unfold nth
  split <;> rfl
theorem sq_nn (x : Int) : 0 ≤ x * x := by
  rcases Int.le_total 0 x with h | h
  · exact Int.mul_nonneg h h
  · have := Int.mul_nonneg (show 0 ≤ -x by omega) (show 0 ≤ -x by omega)
    rwa [Int.neg_mul_neg] at this
theorem index_px (p : Px) {b : Nat} (hb : b < 4) (w : World) : (Instr.index 39 (.agg p.c) (.int .i64 (b : Int))).run Try.prog w = .ok (.int .u8 (nth p b)) w := by
  rw [run_index_row (n := 4) Try.underlying39 (fun _ => Try.isAgg5 _) (fun _ => Try.sizeOf5 _), if_pos (by omega), Int.toNat_natCast, nth_c p hb]
attribute [local go_sem ↓] load_tex store_tex load_col store_col alloc_col
attribute [local go_sem] Mid.run_minT Mid.run_maxT eq_px px_self Px.c_size Px.c_all c_all4 fold_px run_load_tex run_store_tex run_alloc_col run_store_col rowStore_eq rowLoad_eq one_int one_bool one_sl blk_alloc_at blk_alloc_old blk_drew blk_drewN blk_grow setRow_alloc_at setRow_alloc_old setRow_drew setRow_drewN
theorem run_load_col (g o : Nat) (W : World) : (loadRow 39 (.pointer (some ⟨g, o, none⟩))).run Try.prog W = rowLoad Try.prog 39 4 g o W := run_loadRow Try.underlying39 rfl (by kernel_rfl) g o W
theorem ld_blk {W : World} {g : Nat} {p : Px} {t : TypeId} {fr : Nat × Nat} (h : blk W g = some (.cells p.c t fr)) (d : Nat) (os : Array Obj) : (loadRow 39 (.pointer (some ⟨g, 0, none⟩))).run Try.prog (Sort.grow (redrawn W d) os) = .ok p.v (Sort.grow (redrawn W d) os) := by
  rw [run_load_col, rowLoad_eq, blk_grow _ _ _ _ (blk_lt h), h]
  simp [Px.c_size]
set_option maxHeartbeats 8000000 in
theorem MipsMeans_walk (a0 : Int) (a1 : Bool) (a2 : Option Addr) (len2 cap2 : Nat) (x2 : List (List Value)) (a3 : Int) (a4 : Int) (a5 : Int) (a6 : Int) (w : World) (w0 : (Lit.int .i64 a0).wf = true) (w2 : Flat.IsRows [some .i64] w a2 len2 cap2 x2) (w3 : (Lit.int .i64 a3).wf = true) (w4 : (Lit.int .i64 a4).wf = true) (w5 : (Lit.int .i64 a5).wf = true) (w6 : (Lit.int .i64 a6).wf = true) :
    Calls Try.prog 4 #[.int .i64 a0, .bool a1, .slice a2 len2 cap2, .int .i64 a3, .int .i64 a4, .int .i64 a5, .int .i64 a6] w fun e w' => e = .returned (.bool true) ∧ Below w.heap.size w w' := by
  obtain ⟨zs, hzl, hz, hR, hlc, hcm, -⟩ := Ints.rows_row (s := 1) (by omega) w2
  obtain ⟨d1, d2⟩ := bounds_i64 w0
  obtain ⟨l1, l2⟩ := bounds_i64 w3
  obtain ⟨x1, x2'⟩ := bounds_i64 w4
  obtain ⟨y1, y2⟩ := bounds_i64 w5
  clear w0 w2 w3 w4 w5 w6
  have hlen9 : len2 ≤ 9223372036854775807 := by have : maxLen = 9223372036854775807 := rfl; omega
  by_cases hb1 : 50 < len2
  · have hb1' : (50 : Int) < (len2 : Int) := by omega
    clear hR hzl
    go_enter Try.func4, Try.ntmps4
    go_wp2_with (go_at_call 10; refine (awake_any _).mono ?_; rintro e w3 ⟨rfl, hb⟩)
    go_ret
    exact ⟨rfl, hb⟩
  have hb1' : ¬ (50 : Int) < (len2 : Int) := by omega
  by_cases hk1 : a6 < -5
  · clear hR hzl
    go_enter Try.func4, Try.ntmps4
    go_wp2_with (go_at_call 10; refine (awake_any _).mono ?_; rintro e w3 ⟨rfl, hb⟩)
    go_ret
    exact ⟨rfl, hb⟩
  by_cases hk2 : 5 < a6
  · clear hR hzl
    go_enter Try.func4, Try.ntmps4
    go_wp2_with (go_at_call 10; refine (awake_any _).mono ?_; rintro e w3 ⟨rfl, hb⟩)
    go_ret
    exact ⟨rfl, hb⟩
  clear hzl
  go_enter Try.func4, Try.ntmps4
  go_wp2_with fail
  refine (Paint_any a0 a1 a2 len2 cap2 zs w d1 d2 hR hz (by omega)).mono ?_
  rintro e w1 ⟨⟨D, u, ts, -, hD3, rfl, hts, hRB, hou⟩, hb1⟩
  obtain ⟨q, hq⟩ : ∃ q, q = sd D * sd D := ⟨_, rfl⟩
  have hq0 : 0 < q := by rw [hq]; exact Nat.mul_pos (by have := sd_pos D; omega) (by have := sd_pos D; omega)
  rw [← hq] at hou hts
  obtain ⟨g, cap, rfl, hg0, hg1, hgc, hgm, -⟩ := owns_pos hou hq0
  have HQ := Lib.hid hq
  clear hq
  have hTB : blk (w1.alloc (.cells #[.int .i64 D, .bool a1, .slice (some ⟨g, 0, none⟩) q cap] 24)) w1.heap.size = some (.cells #[.int .i64 D, .bool a1, .slice (some ⟨g, 0, none⟩) q cap] 24 (0, 0)) := blk_alloc_at _ _ _ rfl
  have hB1 := (Below.refl w1.heap.size w1).alloc (Nat.le_refl _) (.cells #[.int .i64 D, .bool a1, .slice (some ⟨g, 0, none⟩) q cap] 24)
  have hRd := (Reads.of_owns hou).below hB1 (Nat.le_refl _)
  have hs1 := hb1.size
  go_wp2_with fail
  refine (Build_any a1 ⟨g, 0, none⟩ q cap _ hRd hD3 HQ.out hRB).mono ?_
  rintro e w2 ⟨⟨b, rfl, hb2lo, hP⟩, hb2⟩
  have L2 : Below w.heap.size w w2 := by repeat' (first | (with_reducible exact Below.refl _ _) | (with_reducible refine Rd.below_step ?_ (by assumption)) | (with_reducible refine Rd.below_alloc ?_ _) | (with_reducible refine Rd.below_drewN ?_ _) | (with_reducible refine Below.drew ?_) | (with_reducible refine Below.setCell ?_ ?_ _) | (with_reducible refine Rd.below_setRow ?_ ?_ _) | go_size | (simp only [World.size_alloc]; omega) | omega)
  have hT2 := bd_keep hTB hb2
  clear hTB hB1 hRd hou hR hb1 hb2 hb2lo
  have cD : w2.cell? ⟨w1.heap.size, 0, none⟩ = some (.int .i64 D) := by rw [blk_cell hT2]; first | done | rfl
  obtain ⟨m, hm⟩ : ∃ m : Nat, a3 % ((D : Int) + 1) = m := ⟨(a3 % ((D : Int) + 1)).toNat, by have := Int.emod_nonneg a3 (b := (D : Int) + 1) (by omega); omega⟩
  have hmD : m ≤ D := by have := Int.emod_lt_of_pos a3 (b := (D : Int) + 1) (by omega); omega
  have CR := Lib.hid fun X => (hm ▸ round17 a3 ((D : Int) + 1) X l1 l2 (by omega) (by omega) : Calls Try.prog _ _ X fun e w' => e = .returned (.int .i64 m) ∧ X = w')
  clear hm
  go_wp2_with fail
  refine (CR.out _).mono ?_
  rintro e _ ⟨rfl, rfl⟩
  obtain ⟨s, hs⟩ : ∃ s, sd (D - m) = s := ⟨_, rfl⟩
  have CS := Lib.hid fun X (hX : Pyr X b D a1 ts) => (szE_in hmD ▸ Size_any (m : Int) X hX : Calls Try.prog _ _ X fun e w' => e = .returned (.int .i64 (sd (D - m))) ∧ X = w')
  rw [hs] at CS
  go_wp2_with fail
  refine (CS.out _ hP).mono ?_
  rintro e _ ⟨rfl, rfl⟩
  obtain ⟨ee, he⟩ : ∃ ee, ee = D - m := ⟨_, rfl⟩
  have he' : (D : Int) - (m : Int) = (ee : Int) := by omega
  have hsh : (4 : Int) * 2 ^ ee = (s : Int) := by
    rw [← hs, ← he]
    rcases (show ee = 0 ∨ ee = 1 ∨ ee = 2 ∨ ee = 3 by omega) with rfl | rfl | rfl | rfl <;> rfl
  have hs4 : 4 ≤ s := by rw [← hs]; exact sd_pos _
  have hs32 : s ≤ 32 := by rw [← hs]; exact sd_le (by omega)
  have HS := Lib.hid hs
  have hee0 : ¬ (ee : Int) < 0 := by omega
  obtain ⟨i, hi⟩ : ∃ i : Nat, a4 % (s : Int) = i := ⟨(a4 % (s : Int)).toNat, by have := Int.emod_nonneg a4 (b := (s : Int)) (by omega); omega⟩
  have his : i < s := by have := Int.emod_lt_of_pos a4 (b := (s : Int)) (by omega); omega
  obtain ⟨j, hj⟩ : ∃ j : Nat, a5 % (s : Int) = j := ⟨(a5 % (s : Int)).toNat, by have := Int.emod_nonneg a5 (b := (s : Int)) (by omega); omega⟩
  have hjs : j < s := by have := Int.emod_lt_of_pos a5 (b := (s : Int)) (by omega); omega
  have CI := Lib.hid fun X => (hi ▸ round17 a4 s X x1 x2' (by omega) (by omega) : Calls Try.prog _ _ X fun e w' => e = .returned (.int .i64 i) ∧ X = w')
  have CJ := Lib.hid fun X => (hj ▸ round17 a5 s X y1 y2 (by omega) (by omega) : Calls Try.prog _ _ X fun e w' => e = .returned (.int .i64 j) ∧ X = w')
  clear hi hj he hs
  go_wp2_with fail
  refine (CI.out _).mono ?_
  rintro e _ ⟨rfl, rfl⟩
  go_wp2_with fail
  refine (CJ.out _).mono ?_
  rintro e _ ⟨rfl, rfl⟩
  obtain ⟨pc, hpc⟩ : ∃ p, atP ts D a1 m i j = p := ⟨_, rfl⟩
  have hpB : pc.B := by rw [← hpc]; exact atP_B hRB _ _ _ _ _
  have CC := Lib.hid fun X (hX : Pyr X b D a1 ts) => (hpc ▸ At_any (m : Int) i j X hX ⟨by omega, by omega⟩ ⟨by omega, by omega⟩ : Calls Try.prog _ _ X fun e w' => e = .returned pc.v ∧ Below X.heap.size X w')
  have HPC := Lib.hid hpc
  clear hpc
  go_wp2_with fail
  refine (CC.out _ hP).mono ?_
  rintro e w3 ⟨rfl, hb3⟩
  have L3 : Below w.heap.size w w3 := by have := L2.size; exact L2.trans (hb3.mono this)
  have hP3 := hP.below hb3
  clear hT2 hP L2 hb3 cD
  have s3 := L3.size
  have hB4 := (Below.refl w3.heap.size w3).alloc (Nat.le_refl _) (.cells pc.c 39)
  have hC4 : blk (w3.alloc (.cells pc.c 39)) w3.heap.size = some (.cells pc.c 39 (0, 0)) := blk_alloc_at _ _ _ rfl
  have hP4 := hP3.below hB4
  have L4 : Below w.heap.size w (w3.alloc (.cells pc.c 39)) := L3.alloc s3 _
  clear hP3 L3 hB4
  obtain ⟨ks, hks⟩ : ∃ ks, a6 * (s : Int) = ks := ⟨_, rfl⟩
  have hks1 : -160 ≤ ks ∧ ks ≤ 160 := by rw [← hks]; exact Mid.prod_bd (A := 5) (B := 32) (by omega) (by omega) (by omega) (by omega)
  obtain ⟨kk, hkk⟩ : ∃ kk, a6 * a6 = kk := ⟨_, rfl⟩
  have hkk1 : 0 ≤ kk ∧ kk ≤ 25 := by
    refine ⟨by rw [← hkk]; exact sq_nn a6, ?_⟩
    have := (Mid.prod_bd (a := a6) (b := a6) (A := 5) (B := 5) (by omega) (by omega) (by omega) (by omega)).2
    omega
  have HKS := Lib.hid hks
  by_cases hm0 : m = 0
  · have hm0' : ¬ (0 : Int) < (m : Int) := by omega
    clear hm0
    have hPX := hP4
    have hCX := hC4
    have LX := L4
    clear hP4 hC4 L4
    cases a1 with
    | false =>
      have E1 : atP ts D false m (-1 - kk) j = atP ts D false m 0 j := by
        rw [atP_in hmD, atP_in hmD, HS.out]
        congr 3
        unfold along
        simp only [Bool.false_eq_true, if_false]
        omega
      have E2 : atP ts D false m ((s : Int) + kk) s = atP ts D false m ((s : Int) - 1) ((s : Int) - 1) := by
        rw [atP_in hmD, atP_in hmD, HS.out]
        have e1 : along false s ((s : Int) + kk) = (s : Int) - 1 := by unfold along; simp only [Bool.false_eq_true, if_false]; omega
        have e2 : along false s (s : Int) = (s : Int) - 1 := by unfold along; simp only [Bool.false_eq_true, if_false]; omega
        have e3 : along false s ((s : Int) - 1) = (s : Int) - 1 := by unfold along; simp only [Bool.false_eq_true, if_false]; omega
        rw [e1, e2, e3]
      obtain ⟨p1, hp1⟩ : ∃ p, atP ts D false m 0 j = p := ⟨_, rfl⟩
      obtain ⟨p2, hp2⟩ : ∃ p, atP ts D false m ((s : Int) - 1) ((s : Int) - 1) = p := ⟨_, rfl⟩
      rw [hp1] at E1
      rw [hp2] at E2
      have C1 := Lib.hid fun X (hX : Pyr X b D false ts) => (E1 ▸ At_any (m : Int) (-1 - kk) j X hX ⟨by omega, by omega⟩ ⟨by omega, by omega⟩ : Calls Try.prog _ _ X fun e w' => e = .returned p1.v ∧ Below X.heap.size X w')
      have C2 := Lib.hid fun X (hX : Pyr X b D false ts) => (hp1 ▸ At_any (m : Int) 0 j X hX ⟨by omega, by omega⟩ ⟨by omega, by omega⟩ : Calls Try.prog _ _ X fun e w' => e = .returned p1.v ∧ Below X.heap.size X w')
      have C3 := Lib.hid fun X (hX : Pyr X b D false ts) => (E2 ▸ At_any (m : Int) ((s : Int) + kk) s X hX ⟨by omega, by omega⟩ ⟨by omega, by omega⟩ : Calls Try.prog _ _ X fun e w' => e = .returned p2.v ∧ Below X.heap.size X w')
      have C4 := Lib.hid fun X (hX : Pyr X b D false ts) => (hp2 ▸ At_any (m : Int) ((s : Int) - 1) ((s : Int) - 1) X hX ⟨by omega, by omega⟩ ⟨by omega, by omega⟩ : Calls Try.prog _ _ X fun e w' => e = .returned p2.v ∧ Below X.heap.size X w')
      have sX := LX.size
      clear E1 E2 hp1 hp2 hCX
      go_wp2_with fail
      refine (C1.out _ hPX).mono ?_
      rintro e wa ⟨rfl, ha⟩
      have hPa := hPX.below ha
      have La := LX.trans (ha.mono sX)
      clear ha hPX LX
      go_wp2_with fail
      refine (C2.out _ hPa).mono ?_
      rintro e wb ⟨rfl, hb⟩
      have hPb := hPa.below hb
      have Lb := La.trans (hb.mono La.size)
      clear hb hPa La
      go_wp2_with fail
      refine (C3.out _ hPb).mono ?_
      rintro e wc ⟨rfl, hc⟩
      have hPc := hPb.below hc
      have Lc := Lb.trans (hc.mono Lb.size)
      clear hc hPb Lb
      go_wp2_with fail
      refine (C4.out _ hPc).mono ?_
      rintro e wd ⟨rfl, hd⟩
      have Ld := Lc.trans (hd.mono Lc.size)
      clear hd hPc Lc
      go_wp2_with fail
      refine (awake_any _).mono ?_
      rintro e wf ⟨rfl, hf⟩
      have Lf := Ld.trans (hf.mono Ld.size)
      go_wp2_with fail
      go_ret
      exact ⟨rfl, Lf⟩
    | true =>
      have E1 : atP ts D true m ((i : Int) + ks) ((j : Int) - ks) = pc := by
        rw [← HPC.out, atP_in hmD, atP_in hmD, HS.out, ← HKS.out]
        unfold along
        simp only [if_true]
        rw [Int.add_mul_emod_self_right, show (j : Int) - a6 * s = j + (-a6) * s by rw [Int.neg_mul]; omega, Int.add_mul_emod_self_right]
      have CW := Lib.hid fun X (hX : Pyr X b D true ts) => (E1 ▸ At_any (m : Int) ((i : Int) + ks) ((j : Int) - ks) X hX ⟨by omega, by omega⟩ ⟨by omega, by omega⟩ : Calls Try.prog _ _ X fun e w' => e = .returned pc.v ∧ Below X.heap.size X w')
      clear E1
      go_upto_region 26 with (fail)
      refine Rd.name_world ?_
      intro W hW
      rw [← hW] at hPX hCX LX
      have hld := ld_blk hCX
      clear hW
      (refine wp_region_quiet_below (by kernel_rfl) (by kernel_rfl) ?_; (repeat (go_big_quiet_step ((first | exact Calls.regrown_of (awake_any _) | exact Calls.regrown_of (CW.out _ (hPX.regrown _ _)))))); refine wpQuiet_nil ?_)
      intro w9 hU
      have KU := Rd.below_of_regrown hU
      have L9 := LX.trans (KU.mono LX.size)
      go_wp2_with fail
      go_ret
      exact ⟨rfl, L9⟩
  · have hm1 : (0 : Int) < (m : Int) := by omega
    obtain ⟨X4, hX4⟩ : ∃ X, X = w3.alloc (.cells pc.c 39) := ⟨_, rfl⟩
    go_wp2_with fail
    go_loopw [23] (fun i Y => ∃ k : Nat, k ≤ 4 ∧ i = .int .i64 k ∧ Hid (Below X4.heap.size X4 Y)) (fun i _ => 4 - (intOf i).toNat)
    case atStart => exact ⟨0, by omega, rfl, Lib.hid (by rw [hX4]; exact Below.refl _ _)⟩
    case round =>
      obtain ⟨k, hk, rfl, HY⟩ := hrel
      rename World => Y
      have hPY := hP4.below (by rw [← hX4]; exact HY.out)
      have hCY := bd_keep hC4 (by rw [← hX4]; exact HY.out)
      have LY : Below w.heap.size w Y := L4.trans ((by rw [← hX4]; exact HY.out : Below (w3.alloc (.cells pc.c 39)).heap.size _ Y).mono L4.size)
      by_cases hk4 : k < 4
      · have hk4' : (k : Int) < 4 := by omega
        go_wp2_with fail
        go_loopw [24, 25, 26] (fun lo hi tq Z => ∃ (l h : Int) (t : Nat), t ≤ 4 ∧ lo = .int .i64 l ∧ hi = .int .i64 h ∧ tq = .int .i64 t ∧ (0 ≤ l ∧ l ≤ 255 ∧ 0 ≤ h ∧ h ≤ 255) ∧ Hid (∀ r, r < t → l ≤ nth (atP ts D a1 ((m : Int) - 1) (2 * (i : Int) + (r : Int) % 2) (2 * (j : Int) + (r : Int) / 2)) k ∧ nth (atP ts D a1 ((m : Int) - 1) (2 * (i : Int) + (r : Int) % 2) (2 * (j : Int) + (r : Int) / 2)) k ≤ h) ∧ Hid (Below Y.heap.size Y Z)) (fun _ _ tq _ => 4 - (intOf tq).toNat)
        case atStart => exact ⟨255, 0, 0, by omega, rfl, rfl, rfl, by omega, Lib.hid (fun r hr => absurd hr (by omega)), Lib.hid (Below.refl _ _)⟩
        case round =>
          obtain ⟨l, h, t, ht, rfl, rfl, rfl, hlh, HV, HZ⟩ := hrel
          rename World => Z
          have hPZ := hPY.below HZ.out
          by_cases ht4 : t < 4
          · have ht4' : (t : Int) < 4 := by omega
            obtain ⟨p, hp⟩ : ∃ p, atP ts D a1 ((m : Int) - 1) (2 * (i : Int) + (t : Int) % 2) (2 * (j : Int) + (t : Int) / 2) = p := ⟨_, rfl⟩
            have hpb : p.B := by rw [← hp]; exact atP_B hRB _ _ _ _ _
            have hix := fun X => index_px p hk4 X
            have hnb := nth_B hpb k
            obtain ⟨vb, hvb⟩ : ∃ vb, nth p k = vb := ⟨_, rfl⟩
            have CAt : Calls Try.prog 17 #[.pointer (some ⟨b, 0, none⟩), .int .i64 ((m : Int) - 1), .int .i64 (2 * (i : Int) + (t : Int) % 2), .int .i64 (2 * (j : Int) + (t : Int) / 2)] Z fun e w' => e = .returned p.v ∧ Below Z.heap.size Z w' := by
              rw [← hp]
              exact At_any ((m : Int) - 1) (2 * (i : Int) + (t : Int) % 2) (2 * (j : Int) + (t : Int) / 2) Z hPZ ⟨by omega, by omega⟩ ⟨by omega, by omega⟩
            rw [hvb] at hix hnb
            have HVB : Hid (nth (atP ts D a1 ((m : Int) - 1) (2 * (i : Int) + (t : Int) % 2) (2 * (j : Int) + (t : Int) / 2)) k = vb) := Lib.hid (by rw [hp]; exact hvb)
            have hnb1 : 0 ≤ vb := hnb.1
            have hnb2 : vb ≤ 255 := hnb.2
            have HC := Lib.hid CAt
            clear hp hvb hnb CAt
            go_wp2_with fail
            refine HC.out.mono ?_
            rintro e w5 ⟨rfl, hb5⟩
            have HZ5 := Lib.hid (HZ.out.trans (hb5.mono HZ.out.size))
            clear hb5
            go_wp2_with fail
            all_goals
              try go_roundw
              try (case rel =>
                refine ⟨_, _, _, ⟨_, _, t + 1, by omega, rfl, rfl, rfl, ?_, Lib.hid fun r hr => ?_⟩, rfl, rfl, ?_⟩
                · refine ⟨?_, ?_, ?_, ?_⟩ <;> omega
                · by_cases hrt : r = t
                  · subst hrt
                    rw [HVB.out]
                    constructor <;> omega
                  · have h9 := HV.out r (by omega)
                    exact ⟨by omega, by omega⟩
                · go_num)
              try (case measure => simp [intOf]; omega)
          · obtain rfl : t = 4 := by omega
            have hCZ := bd_keep hCY HZ.out
            have cz : Z.cell? ⟨w3.heap.size, k, none⟩ = some (.int .u8 (nth pc k)) := by rw [blk_cell hCZ]; exact nth_c pc hk4
            have h0 := HV.out 0 (by omega)
            have h1 := HV.out 1 (by omega)
            have h2 := HV.out 2 (by omega)
            have h3 := HV.out 3 (by omega)
            have hM : pc = mean (atP ts D a1 ((m : Int) - 1) (2 * (i : Int) + ((0 : Nat) : Int) % 2) (2 * (j : Int) + ((0 : Nat) : Int) / 2)) (atP ts D a1 ((m : Int) - 1) (2 * (i : Int) + ((1 : Nat) : Int) % 2) (2 * (j : Int) + ((1 : Nat) : Int) / 2)) (atP ts D a1 ((m : Int) - 1) (2 * (i : Int) + ((2 : Nat) : Int) % 2) (2 * (j : Int) + ((2 : Nat) : Int) / 2)) (atP ts D a1 ((m : Int) - 1) (2 * (i : Int) + ((3 : Nat) : Int) % 2) (2 * (j : Int) + ((3 : Nat) : Int) / 2)) := by
              obtain ⟨m9, rfl⟩ : ∃ m9, m = m9 + 1 := ⟨m - 1, by omega⟩
              rw [← HPC.out, atP_mean (by omega) (by rw [HS.out]; exact his) (by rw [HS.out]; exact hjs)]
              congr 2 <;> omega
            have hn9 : nth pc k = meanB (nth (atP ts D a1 ((m : Int) - 1) (2 * (i : Int) + ((0 : Nat) : Int) % 2) (2 * (j : Int) + ((0 : Nat) : Int) / 2)) k) (nth (atP ts D a1 ((m : Int) - 1) (2 * (i : Int) + ((1 : Nat) : Int) % 2) (2 * (j : Int) + ((1 : Nat) : Int) / 2)) k) (nth (atP ts D a1 ((m : Int) - 1) (2 * (i : Int) + ((2 : Nat) : Int) % 2) (2 * (j : Int) + ((2 : Nat) : Int) / 2)) k) (nth (atP ts D a1 ((m : Int) - 1) (2 * (i : Int) + ((3 : Nat) : Int) % 2) (2 * (j : Int) + ((3 : Nat) : Int) / 2)) k) := by
              conv => lhs; rw [hM]
              exact nth_mean _ _ _ _ _
            have hnb := nth_B hpB k
            have hlo : l ≤ nth pc k ∧ nth pc k ≤ h := by
              rw [hn9]
              unfold meanB
              omega
            clear h0 h1 h2 h3 hM hn9
            obtain ⟨vb, hvb⟩ : ∃ vb, nth pc k = vb := ⟨_, rfl⟩
            rw [hvb] at cz hlo hnb
            obtain ⟨hnb1, hnb2⟩ := hnb
            have e1 : ¬ vb < l := by omega
            have e2 : ¬ h < vb := by omega
            have ht4' : ¬ (4 : Int) < 4 := by omega
            have HY9 := Lib.hid (HY.out.trans (HZ.out.mono HY.out.size))
            clear hvb hlo hCZ
            go_wp2_with fail
            all_goals
              try go_roundw
              try (case rel => exact ⟨k + 1, by omega, by go_num, HY9⟩)
              try (case measure => simp [intOf]; omega)
      · obtain rfl : k = 4 := by omega
        have hk4' : ¬ (4 : Int) < 4 := by omega
        have hPX := hPY
        have hCX := hCY
        have LX := LY
        clear hPY hCY LY hP4 hC4 L4 hX4 HY
        cases a1 with
        | false =>
          have E1 : atP ts D false m (-1 - kk) j = atP ts D false m 0 j := by
            rw [atP_in hmD, atP_in hmD, HS.out]
            congr 3
            unfold along
            simp only [Bool.false_eq_true, if_false]
            omega
          have E2 : atP ts D false m ((s : Int) + kk) s = atP ts D false m ((s : Int) - 1) ((s : Int) - 1) := by
            rw [atP_in hmD, atP_in hmD, HS.out]
            have e1 : along false s ((s : Int) + kk) = (s : Int) - 1 := by unfold along; simp only [Bool.false_eq_true, if_false]; omega
            have e2 : along false s (s : Int) = (s : Int) - 1 := by unfold along; simp only [Bool.false_eq_true, if_false]; omega
            have e3 : along false s ((s : Int) - 1) = (s : Int) - 1 := by unfold along; simp only [Bool.false_eq_true, if_false]; omega
            rw [e1, e2, e3]
          obtain ⟨p1, hp1⟩ : ∃ p, atP ts D false m 0 j = p := ⟨_, rfl⟩
          obtain ⟨p2, hp2⟩ : ∃ p, atP ts D false m ((s : Int) - 1) ((s : Int) - 1) = p := ⟨_, rfl⟩
          rw [hp1] at E1
          rw [hp2] at E2
          have C1 := Lib.hid fun X (hX : Pyr X b D false ts) => (E1 ▸ At_any (m : Int) (-1 - kk) j X hX ⟨by omega, by omega⟩ ⟨by omega, by omega⟩ : Calls Try.prog _ _ X fun e w' => e = .returned p1.v ∧ Below X.heap.size X w')
          have C2 := Lib.hid fun X (hX : Pyr X b D false ts) => (hp1 ▸ At_any (m : Int) 0 j X hX ⟨by omega, by omega⟩ ⟨by omega, by omega⟩ : Calls Try.prog _ _ X fun e w' => e = .returned p1.v ∧ Below X.heap.size X w')
          have C3 := Lib.hid fun X (hX : Pyr X b D false ts) => (E2 ▸ At_any (m : Int) ((s : Int) + kk) s X hX ⟨by omega, by omega⟩ ⟨by omega, by omega⟩ : Calls Try.prog _ _ X fun e w' => e = .returned p2.v ∧ Below X.heap.size X w')
          have C4 := Lib.hid fun X (hX : Pyr X b D false ts) => (hp2 ▸ At_any (m : Int) ((s : Int) - 1) ((s : Int) - 1) X hX ⟨by omega, by omega⟩ ⟨by omega, by omega⟩ : Calls Try.prog _ _ X fun e w' => e = .returned p2.v ∧ Below X.heap.size X w')
          have sX := LX.size
          clear E1 E2 hp1 hp2 hCX
          go_wp2_with fail
          refine (C1.out _ hPX).mono ?_
          rintro e wa ⟨rfl, ha⟩
          have hPa := hPX.below ha
          have La := LX.trans (ha.mono sX)
          clear ha hPX LX
          go_wp2_with fail
          refine (C2.out _ hPa).mono ?_
          rintro e wb ⟨rfl, hb⟩
          have hPb := hPa.below hb
          have Lb := La.trans (hb.mono La.size)
          clear hb hPa La
          go_wp2_with fail
          refine (C3.out _ hPb).mono ?_
          rintro e wc ⟨rfl, hc⟩
          have hPc := hPb.below hc
          have Lc := Lb.trans (hc.mono Lb.size)
          clear hc hPb Lb
          go_wp2_with fail
          refine (C4.out _ hPc).mono ?_
          rintro e wd ⟨rfl, hd⟩
          have Ld := Lc.trans (hd.mono Lc.size)
          clear hd hPc Lc
          go_wp2_with fail
          refine (awake_any _).mono ?_
          rintro e wf ⟨rfl, hf⟩
          have Lf := Ld.trans (hf.mono Ld.size)
          go_wp2_with fail
          go_ret
          exact ⟨rfl, Lf⟩
        | true =>
          have E1 : atP ts D true m ((i : Int) + ks) ((j : Int) - ks) = pc := by
            rw [← HPC.out, atP_in hmD, atP_in hmD, HS.out, ← HKS.out]
            unfold along
            simp only [if_true]
            rw [Int.add_mul_emod_self_right, show (j : Int) - a6 * s = j + (-a6) * s by rw [Int.neg_mul]; omega, Int.add_mul_emod_self_right]
          have CW := Lib.hid fun X (hX : Pyr X b D true ts) => (E1 ▸ At_any (m : Int) ((i : Int) + ks) ((j : Int) - ks) X hX ⟨by omega, by omega⟩ ⟨by omega, by omega⟩ : Calls Try.prog _ _ X fun e w' => e = .returned pc.v ∧ Below X.heap.size X w')
          clear E1
          go_upto_region 26 with (fail)
          refine Rd.name_world ?_
          intro W hW
          rw [← hW] at hPX hCX LX
          have hld := ld_blk hCX
          clear hW
          (refine wp_region_quiet_below (by kernel_rfl) (by kernel_rfl) ?_; (repeat (go_big_quiet_step ((first | exact Calls.regrown_of (awake_any _) | exact Calls.regrown_of (CW.out _ (hPX.regrown _ _)))))); refine wpQuiet_nil ?_)
          intro w9 hU
          have KU := Rd.below_of_regrown hU
          have L9 := LX.trans (KU.mono LX.size)
          go_wp2_with fail
          go_ret
          exact ⟨rfl, L9⟩
end Go.Proofs.Ytdjiblgnealmkaa.MpV
