/-
  The walk of ScreenWithin.
-/
import Derived.Test.YtimfjogallcgnaaScJ
namespace Go.Proofs.Ytimfjogallcgnaa.ScL
open Go.RowKit FixA Num Rd Go.Proofs.Ytimfjogallcgnaa.Row Mid ClM ClC ClD ScM ScA ScB ScC ScD ScE ScF ScG ScH ScI ScJ
open Go.Proofs.Ytimfjogallcgnaa.VecA (cellB Wf)
set_option linter.unusedVariables false
set_option linter.unusedSimpArgs false
set_option maxRecDepth 10000
theorem eq_spot1 (x0 x1 x2 x3 x4 x5 y0 y1 y2 y3 y4 y5 : Int) (w : World) : (Op.equalIn 10000 33 (.agg #[.int .i64 x0, .int .i64 x1, .int .i64 x2, .int .i64 x3, .int .i64 x4, .int .i64 x5]) (.agg #[.int .i64 y0, .int .i64 y1, .int .i64 y2, .int .i64 y3, .int .i64 y4, .int .i64 y5])).run Try.prog w =
    .ok (eqL [x0, x1, x2, x3, x4, x5] [y0, y1, y2, y3, y4, y5]) w := eq_spotd 9997 _ _ _ _ _ _ _ _ _ _ _ _ w
attribute [local go_sem ↓] load_mat load_tri store_tri store_spot load_vx store_vx eq_spot1
attribute [local go_sem] one_int run_load_mat run_load_vx run_store_vx run_store_spot run_load_tri run_store_tri pcS pt_all midLoad_eq rowLoad_eq rowStore_eq blk_alloc_at blk_alloc_old blk_drew blk_drewN blk_set_far blk_set_far' blk_grow setRow_alloc_at setRow_alloc_old setRow_drew setRow_drewN
structure SIn (a b c d w h : Int) : Prop where
  x0 : 0 ≤ a
  x1 : a ≤ 256 * w
  y0 : 0 ≤ b
  y1 : b ≤ 256 * h
  z0 : 0 ≤ c
  z1 : c ≤ 65534
  w0 : 256 ≤ d
  w1 : d ≤ 536870912
theorem sin_of {s : List Int} {w h : Int} (i : SpotIn s w h) : SIn (ClM.g s 0) (ClM.g s 1) (ClM.g s 2) (ClM.g s 3) w h := ⟨i.x0, i.x1, i.y0, i.y1, i.z0, i.z1, i.w0, i.w1⟩
theorem tri_sin {p : ClM.Row} {w h : Int} {i : Nat} (h0 : SpotIn (spotL (at_ p 0) w h) w h) (h1 : SpotIn (spotL (at_ p (i + 1)) w h) w h) (h2 : SpotIn (spotL (at_ p (i + 2)) w h) w h) (k : Nat) (hk : k < 3) :
    SIn (ClM.g (triV p w h i) (k * 6 + 0)) (ClM.g (triV p w h i) (k * 6 + 1)) (ClM.g (triV p w h i) (k * 6 + 2)) (ClM.g (triV p w h i) (k * 6 + 3)) w h := by
  have : k = 0 ∨ k = 1 ∨ k = 2 := by omega
  rcases this with rfl | rfl | rfl
  · have a := sin_of h0
    exact a
  · have a := sin_of h1
    exact a
  · have a := sin_of h2
    exact a
theorem at_tris {p : ClM.Row} {w h : Int} {n i : Nat} (hi : i < n) : at_ (trisK p w h n) i = triV p w h i := by
  unfold at_ trisK
  simp [List.getD, hi]
theorem fan_case {P : ClM.Row} {w h : Int} (vp : VxR P) (hp : P.length ≤ 42) (fr : 1 ≤ w ∧ w ≤ 32 ∧ 1 ≤ h ∧ h ≤ 32) : (fanV P w h).length ≤ 40 ∧
    ∀ i, i < (fanV P w h).length → ∀ k, k < 3 → SIn (ClM.g (at_ (fanV P w h) i) (k * 6 + 0)) (ClM.g (at_ (fanV P w h) i) (k * 6 + 1)) (ClM.g (at_ (fanV P w h) i) (k * 6 + 2)) (ClM.g (at_ (fanV P w h) i) (k * 6 + 3)) w h := by
  have e : fanV P w h = trisK P w h (P.length - 2) := rfl
  rw [e, trisK_len]
  refine ⟨by omega, fun i hi k hk => ?_⟩
  rw [at_tris hi]
  have sp := fun j (hj : j < P.length) => spot_in (w := w) (h := h) (at_vx vp hj) (by omega) (by omega)
  exact tri_sin (sp 0 (by omega)) (sp (i + 1) (by omega)) (sp (i + 2) (by omega)) k hk
theorem place_case (m t : List Int) (w h : Int) (ht : t.length = 19) : ((placeV m t w h).2 ≠ 0 → (placeV m t w h).1.length = 0) ∧ ((placeV m t w h).2 = 0 → (1 ≤ w ∧ w ≤ 32 ∧ 1 ≤ h ∧ h ≤ 32) ∧ (placeV m t w h).1.length ≤ 40 ∧
    ∀ i, i < (placeV m t w h).1.length → ∀ k, k < 3 → SIn (ClM.g (at_ (placeV m t w h).1 i) (k * 6 + 0)) (ClM.g (at_ (placeV m t w h).1 i) (k * 6 + 1)) (ClM.g (at_ (placeV m t w h).1 i) (k * 6 + 2)) (ClM.g (at_ (placeV m t w h).1 i) (k * 6 + 3)) w h) := by
  by_cases h1 : (frameB w h && m.all cellB) = true
  · rw [Bool.and_eq_true] at h1
    by_cases h2 : mayT t = true
    · have e : placeV m t w h = (fanV (polyV (rowV m t)) w h, 0) := by unfold placeV; rw [h1.1, h1.2, h2]; rfl
      rw [e]
      have vp := poly_vx (rowV_vx ht h1.2 h2)
      have hp := ClH.polyV_len3 (row := rowV m t) rfl
      have fr := frame_yes h1.1
      generalize polyV (rowV m t) = P at vp hp ⊢
      exact ⟨fun x => absurd rfl x, fun _ => ⟨fr, fan_case vp hp fr⟩⟩
    · have h2' : mayT t = false := by simpa using h2
      have e : placeV m t w h = ([], 2) := by unfold placeV; rw [h1.1, h1.2, h2']; rfl
      rw [e]
      exact ⟨fun _ => rfl, fun x => by cases x⟩
  · have h1' : (frameB w h && m.all cellB) = false := by simpa using h1
    have e : placeV m t w h = ([], 1) := by unfold placeV; rw [h1']; rfl
    rw [e]
    exact ⟨fun _ => rfl, fun x => by cases x⟩
set_option maxHeartbeats 4000000 in
theorem within_gen (ms : List Int) (t0 t1 t2 t3 t4 t5 t6 t7 t8 t9 t10 t11 t12 t13 t14 t15 t16 t17 t18 c0 c1 c2 c3 w h : Int) (W : World) (hm : ms.length = 16) (wm : Wf ms) :
    Calls Try.prog 4 #[.agg (cs .i64 ms), .agg #[.int .i64 t0, .int .i64 t1, .int .i64 t2, .int .i64 t3, .int .i64 t4, .int .i64 t5, .int .i64 t6, .int .i64 t7, .int .i64 t8, .int .i64 t9, .int .i64 t10, .int .i64 t11, .int .i64 t12, .int .i64 t13, .int .i64 t14, .int .i64 t15, .int .i64 t16, .int .i64 t17, .int .i64 t18, .int .u8 c0, .int .u8 c1, .int .u8 c2, .int .u8 c3], .int .i64 w, .int .i64 h] W fun e w' => e = .returned (.bool true) ∧ Below W.heap.size W w' := by
  go_enter Try.func4, Try.ntmps4
  go_wp2_with fail
  refine (place_any ms t0 t1 t2 t3 t4 t5 t6 t7 t8 t9 t10 t11 t12 t13 t14 t15 t16 t17 t18 c0 c1 c2 c3 w h _ hm wm).mono ?_
  rintro e w1 ⟨⟨ad, c, rfl, hr⟩, hb1⟩
  have HP := Lib.hid (place_case ms [t0, t1, t2, t3, t4, t5, t6, t7, t8, t9, t10, t11, t12, t13, t14, t15, t16, t17, t18] w h rfl)
  obtain ⟨R, eR⟩ : ∃ R, (placeV ms [t0, t1, t2, t3, t4, t5, t6, t7, t8, t9, t10, t11, t12, t13, t14, t15, t16, t17, t18] w h).1 = R := ⟨_, rfl⟩
  obtain ⟨er, eE⟩ : ∃ e, (placeV ms [t0, t1, t2, t3, t4, t5, t6, t7, t8, t9, t10, t11, t12, t13, t14, t15, t16, t17, t18] w h).2 = e := ⟨_, rfl⟩
  rw [eR] at hr
  rw [eR, eE] at HP ⊢
  clear eR eE
  have L1 : Below W.heap.size W w1 := by repeat' (first | (with_reducible exact Below.refl _ _) | (with_reducible refine Rd.below_step ?_ (by assumption)) | (with_reducible refine Rd.below_alloc ?_ _) | (with_reducible refine Rd.below_drewN ?_ _) | (with_reducible refine Below.drew ?_) | (with_reducible refine Below.setCell ?_ ?_ _) | (with_reducible refine Rd.below_setRow ?_ ?_ _) | go_size | (simp only [World.size_alloc]; omega) | omega)
  have H := Lib.hid hr
  clear hb1 hr
  obtain ⟨n, hn⟩ : ∃ n, R.length = n := ⟨_, rfl⟩
  rw [hn]
  have HN := Lib.hid hn
  by_cases he : er = 0
  case neg =>
    have hn0 : n = 0 := by rw [← hn]; exact HP.out.1 he
    subst hn0
    have d1 : (er == 0) = false := by simpa using he
    clear hn
    go_wp2_with fail
    refine (awake_any _).mono ?_
    rintro e w2 ⟨rfl, hb2⟩
    have L2 : Below W.heap.size W w2 := by repeat' (first | (with_reducible exact Below.refl _ _) | (with_reducible refine Rd.below_step ?_ (by assumption)) | (with_reducible refine Rd.below_alloc ?_ _) | (with_reducible refine Rd.below_drewN ?_ _) | (with_reducible refine Below.drew ?_) | (with_reducible refine Below.setCell ?_ ?_ _) | (with_reducible refine Rd.below_setRow ?_ ?_ _) | go_size | (simp only [World.size_alloc]; omega) | omega)
    go_wp2
    go_ret
    exact ⟨rfl, L2⟩
  subst he
  obtain ⟨fr, hlen, hin⟩ := HP.out.2 rfl
  rw [hn] at hlen
  have HIN := Lib.hid hin
  have hw1 := fr.1
  have hw2 := fr.2.1
  have hh1 := fr.2.2.1
  have hh2 := fr.2.2.2
  clear fr hin hn HP
  go_wp2_with fail
  go_loopw [11] (fun i wr => ∃ k : Nat, k ≤ n ∧ i = .int .i64 k ∧ Below w1.heap.size w1 wr) (fun i _ => n - (intOf i).toNat)
  case atStart => exact ⟨0, by omega, rfl, Below.refl _ _⟩
  case round =>
    obtain ⟨i, hi, rfl, hb⟩ := hrel
    by_cases hlt : i < n
    · have hlt' : (i : Int) < n := by omega
      obtain ⟨b, o, ea, hb0, hc⟩ : ∃ b o, ad = some ⟨b, o, none⟩ ∧ b < w1.heap.size ∧ ∀ i, i < R.length → ∀ j, j < 18 → w1.cell? ⟨b, o + i * 18 + j, none⟩ = some (.int .i64 (ClM.g (at_ R i) j)) := by
        rcases H.out.2 with h | h
        · have := HN.out; rw [h] at this; simp at this; omega
        · exact h
      subst ea
      have CC := Lib.hid (fun (X : World) (hX : Below w1.heap.size w1 X) (j : Nat) (hj : j < 18) => (hX.cell (p := ⟨b, o + i * 18 + j, none⟩) hb0).trans (hc i (by rw [HN.out]; exact hlt) j hj))
      have IN := Lib.hid (HIN.out i (by rw [HN.out]; exact hlt))
      clear hc
      go_wp2_with fail
      go_loopw [12] (fun i X => ∃ k : Nat, k ≤ 3 ∧ i = .int .i64 k ∧ Below w1.heap.size w1 X) (fun i _ => 3 - (intOf i).toNat)
      case atStart => exact ⟨0, by omega, rfl, hb⟩
      case round =>
        obtain ⟨k, hk, rfl, hbk⟩ := hrel
        rename World => Y0
        by_cases hk3 : k < 3
        · have hk3' : (k : Int) < 3 := by omega
          have I := IN.out k hk3
          obtain ⟨x0, e0⟩ : ∃ x, ClM.g (at_ R i) (k * 6 + 0) = x := ⟨_, rfl⟩
          have k0 : Y0.cell? ⟨b, o + i * 18 + k * 6, none⟩ = some (.int .i64 x0) := by rw [← e0]; exact CC.out Y0 hbk (k * 6 + 0) (by omega)
          obtain ⟨x1, e1⟩ : ∃ x, ClM.g (at_ R i) (k * 6 + 1) = x := ⟨_, rfl⟩
          have k1 : Y0.cell? ⟨b, o + i * 18 + k * 6 + 1, none⟩ = some (.int .i64 x1) := by rw [← e1]; exact CC.out Y0 hbk (k * 6 + 1) (by omega)
          obtain ⟨x2, e2⟩ : ∃ x, ClM.g (at_ R i) (k * 6 + 2) = x := ⟨_, rfl⟩
          have k2 : Y0.cell? ⟨b, o + i * 18 + k * 6 + 2, none⟩ = some (.int .i64 x2) := by rw [← e2]; exact CC.out Y0 hbk (k * 6 + 2) (by omega)
          obtain ⟨x3, e3⟩ : ∃ x, ClM.g (at_ R i) (k * 6 + 3) = x := ⟨_, rfl⟩
          have k3 : Y0.cell? ⟨b, o + i * 18 + k * 6 + 3, none⟩ = some (.int .i64 x3) := by rw [← e3]; exact CC.out Y0 hbk (k * 6 + 3) (by omega)
          obtain ⟨x4, e4⟩ : ∃ x, ClM.g (at_ R i) (k * 6 + 4) = x := ⟨_, rfl⟩
          have k4 : Y0.cell? ⟨b, o + i * 18 + k * 6 + 4, none⟩ = some (.int .i64 x4) := by rw [← e4]; exact CC.out Y0 hbk (k * 6 + 4) (by omega)
          obtain ⟨x5, e5⟩ : ∃ x, ClM.g (at_ R i) (k * 6 + 5) = x := ⟨_, rfl⟩
          have k5 : Y0.cell? ⟨b, o + i * 18 + k * 6 + 5, none⟩ = some (.int .i64 x5) := by rw [← e5]; exact CC.out Y0 hbk (k * 6 + 5) (by omega)
          rw [e0, e1, e2, e3] at I
          obtain ⟨i0, i1, i2, i3, i4, i5, i6, i7⟩ := I
          have d0 : decide (x0 < 0) = false := decide_eq_false (by omega)
          have d1 : decide (256 * w < x0) = false := decide_eq_false (by omega)
          have d2 : decide (x1 < 0) = false := decide_eq_false (by omega)
          have d3 : decide (256 * h < x1) = false := decide_eq_false (by omega)
          have d4 : decide (x2 < 0) = false := decide_eq_false (by omega)
          have d5 : decide (65534 < x2) = false := decide_eq_false (by omega)
          have d6 : decide (x3 < 256) = false := decide_eq_false (by omega)
          have d7 : decide (536870912 < x3) = false := decide_eq_false (by omega)
          clear e0 e1 e2 e3 e4 e5 i0 i1 i2 i3 i4 i5 i6 i7
          go_upto_region 11 with (fail)
          refine Rd.name_world ?_
          intro w2 hw
          have bX : blk w2 Y0.heap.size = some (.cells #[.int .i64 x0, .int .i64 x1, .int .i64 x2, .int .i64 x3, .int .i64 x4, .int .i64 x5] 33 (0, 0)) := by rw [hw]; exact blk_alloc_at _ _ _ rfl
          have hs := hbk.size
          have L2 : Below w1.heap.size w1 w2 := by
            rw [hw]
            repeat' (first | (with_reducible exact Below.refl _ _) | (with_reducible refine Rd.below_step ?_ (by assumption)) | (with_reducible refine Rd.below_alloc ?_ _) | (with_reducible refine Rd.below_drewN ?_ _) | (with_reducible refine Below.drew ?_) | (with_reducible refine Below.setCell ?_ ?_ _) | (with_reducible refine Rd.below_setRow ?_ ?_ _) | go_size | (simp only [World.size_alloc]; omega) | omega)
          have p0 : w2.cell? ⟨Y0.heap.size, 0, none⟩ = some (.int .i64 x0) := by rw [blk_cell bX]; rfl
          have p1 : w2.cell? ⟨Y0.heap.size, 1, none⟩ = some (.int .i64 x1) := by rw [blk_cell bX]; rfl
          have p2 : w2.cell? ⟨Y0.heap.size, 2, none⟩ = some (.int .i64 x2) := by rw [blk_cell bX]; rfl
          have p3 : w2.cell? ⟨Y0.heap.size, 3, none⟩ = some (.int .i64 x3) := by rw [blk_cell bX]; rfl
          clear hw k0 k1 k2 k3 k4 k5
          go_wp2
          go_roundw
          case rel => exact ⟨k + 1, by omega, by go_num, L2⟩
          case measure => simp [intOf]; omega
        · obtain rfl : k = 3 := by omega
          go_wp2
          exact ⟨⟨i + 1, by omega, by go_num, hbk⟩, by simp [intOf]; omega⟩
    · obtain rfl : i = n := by omega
      have L2 : Below W.heap.size W wr := L1.trans (hb.mono L1.size)
      go_wp2_with fail
      refine (awake_any _).mono ?_
      rintro e w3 ⟨rfl, hb3⟩
      have L3 : Below W.heap.size W w3 := by repeat' (first | (with_reducible exact Below.refl _ _) | (with_reducible refine Rd.below_step ?_ (by assumption)) | (with_reducible refine Rd.below_alloc ?_ _) | (with_reducible refine Rd.below_drewN ?_ _) | (with_reducible refine Below.drew ?_) | (with_reducible refine Below.setCell ?_ ?_ _) | (with_reducible refine Rd.below_setRow ?_ ?_ _) | go_size | (simp only [World.size_alloc]; omega) | omega)
      go_wp2
      go_ret
      exact ⟨rfl, L3⟩
end Go.Proofs.Ytimfjogallcgnaa.ScL
