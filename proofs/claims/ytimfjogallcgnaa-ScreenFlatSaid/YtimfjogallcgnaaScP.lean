/-
  The walk of ScreenFlat.
-/
import Derived.Test.YtimfjogallcgnaaScJ
import Derived.BigQuiet
namespace Go.Proofs.Ytimfjogallcgnaa.ScP
open Go.RowKit FixA Num Rd Go.Proofs.Ytimfjogallcgnaa.Row Mid ClM ClC ClD ScM ScA ScB ScC ScD ScE ScF ScG ScH ScI ScJ
open Go.Proofs.Ytimfjogallcgnaa.VecA (cellB Wf)
open Go.Proofs.Ytimfjogallcgnaa.VecD (oneL outF)
open Go.Proofs.Ytimfjogallcgnaa.Pred (Is is_stab Stab)
set_option linter.unusedVariables false
set_option linter.unusedSimpArgs false
set_option maxRecDepth 10000

/-! The mathematics -/
theorem near_mul (q d : Int) (h : 0 < d) : near (q * d) d = q := near_q (q * d) d q 0 h (by omega) (by omega) (by omega)
def flatV (x y u : Int) : List Int := [512 * x, 512 * y, 0, 65536, u, 7]
theorem flat_may {x y u : Int} (h0 : -128 ≤ x) (h1 : x ≤ 128) (h2 : -128 ≤ y) (h3 : y ≤ 128) (h4 : 0 ≤ u) (h5 : u ≤ 2) : mayV (flatV x y u) = true := by
  have e : mayV (flatV x y u) = ((bigB 4194304 (512 * x) && (bigB 4194304 (512 * y) && bigB 4194304 0)) && (decide ((65536 : Int) = 65536) && (bigB 67108864 u && bigB 67108864 7))) := rfl
  rw [e]
  simp only [bigB, Bool.and_eq_true, decide_eq_true_eq]
  refine ⟨⟨⟨by omega, by omega⟩, ⟨by omega, by omega⟩, ⟨by omega, by omega⟩⟩, ?_, ⟨by omega, by omega⟩, ⟨by omega, by omega⟩⟩
  first | rfl | trivial
theorem one_at (v : List Int) (i : Nat) (hi : i < 4) : outF oneL v i = v.getD i 0 := by
  have h : i = 0 ∨ i = 1 ∨ i = 2 ∨ i = 3 := by omega
  unfold outF
  rcases h with rfl | rfl | rfl | rfl
  · have e : VecA.dot oneL 0 v = v.getD 0 0 * 65536 := by
      show 65536 * v.getD 0 0 + 0 * v.getD 1 0 + 0 * v.getD 2 0 + 0 * v.getD 3 0 = _
      omega
    rw [e]; exact near_mul _ _ (by omega)
  · have e : VecA.dot oneL 1 v = v.getD 1 0 * 65536 := by
      show 0 * v.getD 0 0 + 65536 * v.getD 1 0 + 0 * v.getD 2 0 + 0 * v.getD 3 0 = _
      omega
    rw [e]; exact near_mul _ _ (by omega)
  · have e : VecA.dot oneL 2 v = v.getD 2 0 * 65536 := by
      show 0 * v.getD 0 0 + 0 * v.getD 1 0 + 65536 * v.getD 2 0 + 0 * v.getD 3 0 = _
      omega
    rw [e]; exact near_mul _ _ (by omega)
  · have e : VecA.dot oneL 3 v = v.getD 3 0 * 65536 := by
      show 0 * v.getD 0 0 + 0 * v.getD 1 0 + 0 * v.getD 2 0 + 65536 * v.getD 3 0 = _
      omega
    rw [e]; exact near_mul _ _ (by omega)
theorem one_cells : oneL.all cellB = true := by decide
theorem flat_seen {x y u : Int} (h : mayV (flatV x y u) = true) : ScM.seen oneL (flatV x y u) = flatV x y u := by
  rw [seen_eq rfl one_cells h, one_at _ 0 (by omega), one_at _ 1 (by omega), one_at _ 2 (by omega), one_at _ 3 (by omega)]
  rfl
theorem flat_in {x y u : Int} (h0 : -128 ≤ x) (h1 : x ≤ 128) (h2 : -128 ≤ y) (h3 : y ≤ 128) (k : Nat) (hk : k < 7) : inB (k : Int) (flatV x y u) = true := by
  have g0 : ClM.g (flatV x y u) 0 = 512 * x := rfl
  have g1 : ClM.g (flatV x y u) 1 = 512 * y := rfl
  have g2 : ClM.g (flatV x y u) 2 = 0 := rfl
  have g3 : ClM.g (flatV x y u) 3 = 65536 := rfl
  refine decide_eq_true ?_
  unfold insV
  rw [g0, g1, g2, g3]
  have : k = 0 ∨ k = 1 ∨ k = 2 ∨ k = 3 ∨ k = 4 ∨ k = 5 ∨ k = 6 := by omega
  rcases this with rfl | rfl | rfl | rfl | rfl | rfl | rfl <;> simp <;> omega
theorem flat_x {x w : Int} (h0 : -128 ≤ x) (h1 : x ≤ 128) : near ((65536 + held (512 * x) 65536) * w * 128) 65536 = w * (128 + x) := by
  have e : held (512 * x) 65536 = 512 * x := by unfold held; omega
  have e2 : (65536 + 512 * x) * w * 128 = (w * (128 + x)) * 65536 := by
    rw [show (65536 : Int) + 512 * x = 512 * (128 + x) by omega, Int.mul_comm w, Int.mul_assoc 512]
    omega
  rw [e, e2]; exact near_mul _ _ (by omega)
theorem flat_y {y h : Int} (h0 : -128 ≤ y) (h1 : y ≤ 128) : near ((65536 - held (512 * y) 65536) * h * 128) 65536 = h * (128 - y) := by
  have e : held (512 * y) 65536 = 512 * y := by unfold held; omega
  have e2 : (65536 - 512 * y) * h * 128 = (h * (128 - y)) * 65536 := by
    rw [show (65536 : Int) - 512 * y = 512 * (128 - y) by omega, Int.mul_comm h, Int.mul_assoc 512]
    omega
  rw [e, e2]; exact near_mul _ _ (by omega)
theorem flat_spot {x y u w h : Int} (h0 : -128 ≤ x) (h1 : x ≤ 128) (h2 : -128 ≤ y) (h3 : y ≤ 128) : spotL (flatV x y u) w h = [w * (128 + x), h * (128 - y), 32767, 65536, u, 7] := by
  have d : dV (flatV x y u) = 65536 := rfl
  have e : spotL (flatV x y u) w h = [near ((65536 + held (512 * x) 65536) * w * 128) 65536, near ((65536 - held (512 * y) 65536) * h * 128) 65536, near ((65536 + held 0 65536) * 32767) 65536, 65536, u, 7] := rfl
  rw [e, flat_x h0 h1, flat_y h2 h3]
  rfl
theorem flat_place (a0 a1 a2 a3 a4 a5 w h : Int) (hw0 : 1 ≤ w) (hw1 : w ≤ 32) (hh0 : 1 ≤ h) (hh1 : h ≤ 32) (hA : ∀ j, j < 6 → -128 ≤ ClM.g [a0, a1, a2, a3, a4, a5] j ∧ ClM.g [a0, a1, a2, a3, a4, a5] j ≤ 128) :
    placeV oneL [512 * a0, 512 * a1, 0, 65536, 0, 7, 512 * a2, 512 * a3, 0, 65536, 1, 7, 512 * a4, 512 * a5, 0, 65536, 2, 7, 0] w h = ([[w * (128 + a0), h * (128 - a1), 32767, 65536, 0, 7, w * (128 + a2), h * (128 - a3), 32767, 65536, 1, 7, w * (128 + a4), h * (128 - a5), 32767, 65536, 2, 7]], 0) := by
  have b0 : -128 ≤ a0 ∧ a0 ≤ 128 := hA 0 (by omega)
  have b1 : -128 ≤ a1 ∧ a1 ≤ 128 := hA 1 (by omega)
  have b2 : -128 ≤ a2 ∧ a2 ≤ 128 := hA 2 (by omega)
  have b3 : -128 ≤ a3 ∧ a3 ≤ 128 := hA 3 (by omega)
  have b4 : -128 ≤ a4 ∧ a4 ≤ 128 := hA 4 (by omega)
  have b5 : -128 ≤ a5 ∧ a5 ≤ 128 := hA 5 (by omega)
  have m0 := flat_may (x := a0) (y := a1) (u := 0) b0.1 b0.2 b1.1 b1.2 (by omega) (by omega)
  have m1 := flat_may (x := a2) (y := a3) (u := 1) b2.1 b2.2 b3.1 b3.2 (by omega) (by omega)
  have m2 := flat_may (x := a4) (y := a5) (u := 2) b4.1 b4.2 b5.1 b5.2 (by omega) (by omega)
  have hT : mayT [512 * a0, 512 * a1, 0, 65536, 0, 7, 512 * a2, 512 * a3, 0, 65536, 1, 7, 512 * a4, 512 * a5, 0, 65536, 2, 7, 0] = true := by
    have e : mayT [512 * a0, 512 * a1, 0, 65536, 0, 7, 512 * a2, 512 * a3, 0, 65536, 1, 7, 512 * a4, 512 * a5, 0, 65536, 2, 7, 0] = (mayV (flatV a0 a1 0) && (mayV (flatV a2 a3 1) && mayV (flatV a4 a5 2))) := rfl
    rw [e, m0, m1, m2]; rfl
  have hR : rowV oneL [512 * a0, 512 * a1, 0, 65536, 0, 7, 512 * a2, 512 * a3, 0, 65536, 1, 7, 512 * a4, 512 * a5, 0, 65536, 2, 7, 0] = [flatV a0 a1 0, flatV a2 a3 1, flatV a4 a5 2] := by
    have e : rowV oneL [512 * a0, 512 * a1, 0, 65536, 0, 7, 512 * a2, 512 * a3, 0, 65536, 1, 7, 512 * a4, 512 * a5, 0, 65536, 2, 7, 0] = [ScM.seen oneL (flatV a0 a1 0), ScM.seen oneL (flatV a2 a3 1), ScM.seen oneL (flatV a4 a5 2)] := rfl
    rw [e, flat_seen m0, flat_seen m1, flat_seen m2]
  have hP : polyV [flatV a0 a1 0, flatV a2 a3 1, flatV a4 a5 2] = [flatV a0 a1 0, flatV a2 a3 1, flatV a4 a5 2] := by
    refine ClH.polyV_in (by simp) fun k hk => ?_
    simp only [List.all_cons, List.all_nil, Bool.and_true]
    rw [flat_in b0.1 b0.2 b1.1 b1.2 k hk, flat_in b2.1 b2.2 b3.1 b3.2 k hk, flat_in b4.1 b4.2 b5.1 b5.2 k hk]; rfl
  have hF : fanV [flatV a0 a1 0, flatV a2 a3 1, flatV a4 a5 2] w h = [spotL (flatV a0 a1 0) w h ++ (spotL (flatV a2 a3 1) w h ++ spotL (flatV a4 a5 2) w h)] := rfl
  unfold placeV
  rw [frame_mk hw0 hw1 hh0 hh1, one_cells, hT, hR, hP, hF, flat_spot b0.1 b0.2 b1.1 b1.2, flat_spot b2.1 b2.2 b3.1 b3.2, flat_spot b4.1 b4.2 b5.1 b5.2]
  rfl
theorem step_all {p : Nat → Prop} {k : Nat} (h : ∀ j, j < 2 * k → p j) (h1 : p (2 * k)) (h2 : p (2 * k + 1)) : ∀ j, j < 2 * (k + 1) → p j := by
  intro j hj
  by_cases e : j = 2 * k
  · subst e; exact h1
  · by_cases e2 : j = 2 * k + 1
    · subst e2; exact h2
    · exact h j (by omega)

/-! The walk -/
theorem eq_spot1 (x0 x1 x2 x3 x4 x5 y0 y1 y2 y3 y4 y5 : Int) (w : World) : (Op.equalIn 10000 33 (.agg #[.int .i64 x0, .int .i64 x1, .int .i64 x2, .int .i64 x3, .int .i64 x4, .int .i64 x5]) (.agg #[.int .i64 y0, .int .i64 y1, .int .i64 y2, .int .i64 y3, .int .i64 y4, .int .i64 y5])).run Try.prog w =
    .ok (eqL [x0, x1, x2, x3, x4, x5] [y0, y1, y2, y3, y4, y5]) w := eq_spotd 9997 _ _ _ _ _ _ _ _ _ _ _ _ w
theorem run_storem_vx (g o : Nat) (c : Array Value) (W : World) : (storeRow 25 (.pointer (some ⟨g, o, none⟩)) (.agg c)).run Try.prog W = midStore Try.prog 25 6 g o c W := run_storeMid (by kernel_rfl) (by decide) g o c W
theorem pw0 (x0 : Value) (x1 : Value) (x2 : Value) (x3 : Value) (x4 : Value) (x5 : Value) (x6 : Value) (x7 : Value) (x8 : Value) (x9 : Value) (x10 : Value) (x11 : Value) (x12 : Value) (x13 : Value) (x14 : Value) (x15 : Value) (x16 : Value) (x17 : Value) : Mid.piece #[x0, x1, x2, x3, x4, x5, x6, x7, x8, x9, x10, x11, x12, x13, x14, x15, x16, x17] 0 6 = #[x0, x1, x2, x3, x4, x5] := rfl
theorem pw6 (x0 : Value) (x1 : Value) (x2 : Value) (x3 : Value) (x4 : Value) (x5 : Value) (x6 : Value) (x7 : Value) (x8 : Value) (x9 : Value) (x10 : Value) (x11 : Value) (x12 : Value) (x13 : Value) (x14 : Value) (x15 : Value) (x16 : Value) (x17 : Value) : Mid.piece #[x0, x1, x2, x3, x4, x5, x6, x7, x8, x9, x10, x11, x12, x13, x14, x15, x16, x17] 6 6 = #[x6, x7, x8, x9, x10, x11] := rfl
theorem pw12 (x0 : Value) (x1 : Value) (x2 : Value) (x3 : Value) (x4 : Value) (x5 : Value) (x6 : Value) (x7 : Value) (x8 : Value) (x9 : Value) (x10 : Value) (x11 : Value) (x12 : Value) (x13 : Value) (x14 : Value) (x15 : Value) (x16 : Value) (x17 : Value) : Mid.piece #[x0, x1, x2, x3, x4, x5, x6, x7, x8, x9, x10, x11, x12, x13, x14, x15, x16, x17] 12 6 = #[x12, x13, x14, x15, x16, x17] := rfl
attribute [local go_sem ↓] store_vx eq_spot1
attribute [local go_sem] one_int run_storem_vx midStore_eq pasteL rowLoad_eq rowStore_eq blk_alloc_at blk_alloc_old blk_drew blk_drewN blk_set_far blk_set_far' blk_grow setRow_alloc_at setRow_alloc_old setRow_drew setRow_drewN
theorem placeFlat (a0 a1 a2 a3 a4 a5 w h : Int) (hw0 : 1 ≤ w) (hw1 : w ≤ 32) (hh0 : 1 ≤ h) (hh1 : h ≤ 32) (hA : ∀ j, j < 6 → -128 ≤ ClM.g [a0, a1, a2, a3, a4, a5] j ∧ ClM.g [a0, a1, a2, a3, a4, a5] j ≤ 128) (X : World) :
    Calls Try.prog 10 #[.agg (cs .i64 oneL), .agg #[.int .i64 (512 * a0), .int .i64 (512 * a1), .int .i64 0, .int .i64 65536, .int .i64 0, .int .i64 7, .int .i64 (512 * a2), .int .i64 (512 * a3), .int .i64 0, .int .i64 65536, .int .i64 1, .int .i64 7, .int .i64 (512 * a4), .int .i64 (512 * a5), .int .i64 0, .int .i64 65536, .int .i64 2, .int .i64 7, .int .i64 0, .int .u8 0, .int .u8 0, .int .u8 0, .int .u8 0], .int .i64 w, .int .i64 h] X fun e w' => (∃ v, e = .returned v ∧ PR 1 0 [[w * (128 + a0), h * (128 - a1), 32767, 65536, 0, 7, w * (128 + a2), h * (128 - a3), 32767, 65536, 1, 7, w * (128 + a4), h * (128 - a5), 32767, 65536, 2, 7]] v w') ∧ Below X.heap.size X w' := by
  refine (place_any oneL (512 * a0) (512 * a1) 0 65536 0 7 (512 * a2) (512 * a3) 0 65536 1 7 (512 * a4) (512 * a5) 0 65536 2 7 0 0 0 0 0 w h X oneL_len oneL_wf).mono ?_
  rintro e w' ⟨⟨ad, c, he, hr⟩, hb⟩
  rw [flat_place a0 a1 a2 a3 a4 a5 w h hw0 hw1 hh0 hh1 hA] at he hr
  exact ⟨⟨_, he, ad, c, rfl, hr⟩, hb⟩
set_option maxHeartbeats 4000000 in
theorem flat_gen (a0 a1 a2 a3 a4 a5 w h : Int) (W : World) :
    Calls Try.prog 6 #[.agg #[.int .i64 a0, .int .i64 a1, .int .i64 a2, .int .i64 a3, .int .i64 a4, .int .i64 a5], .int .i64 w, .int .i64 h] W fun e w' => e = .returned (.bool true) ∧ Below W.heap.size W w' := by
  by_cases g0 : 1 ≤ w
  case neg =>
    have d0 : decide (w < 1) = true := decide_eq_true (by omega)
    go_enter Try.func6, Try.ntmps6
    go_wp2_with fail
    refine (awake_any _).mono ?_
    rintro e w2 ⟨rfl, hb2⟩
    have L2 : Below W.heap.size W w2 := by repeat' (first | (with_reducible exact Below.refl _ _) | (with_reducible refine Rd.below_step ?_ (by assumption)) | (with_reducible refine Rd.below_alloc ?_ _) | (with_reducible refine Rd.below_drewN ?_ _) | (with_reducible refine Below.drew ?_) | (with_reducible refine Below.setCell ?_ ?_ _) | (with_reducible refine Rd.below_setRow ?_ ?_ _) | go_size | (simp only [World.size_alloc]; omega) | omega)
    go_wp2
    go_ret
    exact ⟨rfl, L2⟩
  have d0 : decide (w < 1) = false := decide_eq_false (by omega)
  by_cases g1 : w ≤ 32
  case neg =>
    have d1 : decide (32 < w) = true := decide_eq_true (by omega)
    go_enter Try.func6, Try.ntmps6
    go_wp2_with fail
    refine (awake_any _).mono ?_
    rintro e w2 ⟨rfl, hb2⟩
    have L2 : Below W.heap.size W w2 := by repeat' (first | (with_reducible exact Below.refl _ _) | (with_reducible refine Rd.below_step ?_ (by assumption)) | (with_reducible refine Rd.below_alloc ?_ _) | (with_reducible refine Rd.below_drewN ?_ _) | (with_reducible refine Below.drew ?_) | (with_reducible refine Below.setCell ?_ ?_ _) | (with_reducible refine Rd.below_setRow ?_ ?_ _) | go_size | (simp only [World.size_alloc]; omega) | omega)
    go_wp2
    go_ret
    exact ⟨rfl, L2⟩
  have d1 : decide (32 < w) = false := decide_eq_false (by omega)
  by_cases g2 : 1 ≤ h
  case neg =>
    have d2 : decide (h < 1) = true := decide_eq_true (by omega)
    go_enter Try.func6, Try.ntmps6
    go_wp2_with fail
    refine (awake_any _).mono ?_
    rintro e w2 ⟨rfl, hb2⟩
    have L2 : Below W.heap.size W w2 := by repeat' (first | (with_reducible exact Below.refl _ _) | (with_reducible refine Rd.below_step ?_ (by assumption)) | (with_reducible refine Rd.below_alloc ?_ _) | (with_reducible refine Rd.below_drewN ?_ _) | (with_reducible refine Below.drew ?_) | (with_reducible refine Below.setCell ?_ ?_ _) | (with_reducible refine Rd.below_setRow ?_ ?_ _) | go_size | (simp only [World.size_alloc]; omega) | omega)
    go_wp2
    go_ret
    exact ⟨rfl, L2⟩
  have d2 : decide (h < 1) = false := decide_eq_false (by omega)
  by_cases g3 : h ≤ 32
  case neg =>
    have d3 : decide (32 < h) = true := decide_eq_true (by omega)
    go_enter Try.func6, Try.ntmps6
    go_wp2_with fail
    refine (awake_any _).mono ?_
    rintro e w2 ⟨rfl, hb2⟩
    have L2 : Below W.heap.size W w2 := by repeat' (first | (with_reducible exact Below.refl _ _) | (with_reducible refine Rd.below_step ?_ (by assumption)) | (with_reducible refine Rd.below_alloc ?_ _) | (with_reducible refine Rd.below_drewN ?_ _) | (with_reducible refine Below.drew ?_) | (with_reducible refine Below.setCell ?_ ?_ _) | (with_reducible refine Rd.below_setRow ?_ ?_ _) | go_size | (simp only [World.size_alloc]; omega) | omega)
    go_wp2
    go_ret
    exact ⟨rfl, L2⟩
  have d3 : decide (32 < h) = false := decide_eq_false (by omega)
  go_enter Try.func6, Try.ntmps6
  go_upto_region 4 with (fail)
  refine Rd.name_world ?_
  intro w1 hw
  have bP : blk w1 W.heap.size = some (.cells #[.int .i64 a0, .int .i64 a1, .int .i64 a2, .int .i64 a3, .int .i64 a4, .int .i64 a5] 49 (0, 0)) := by rw [hw]; exact blk2_0 _ _ _
  have bV : blk w1 (W.heap.size + 1) = some (.cells #[.int .i64 0, .int .i64 0, .int .i64 0, .int .i64 0, .int .i64 0, .int .i64 0, .int .i64 0, .int .i64 0, .int .i64 0, .int .i64 0, .int .i64 0, .int .i64 0, .int .i64 0, .int .i64 0, .int .i64 0, .int .i64 0, .int .i64 0, .int .i64 0] 50 (0, 0)) := by rw [hw]; exact blk2_1 _ _ _
  have L1 : Below W.heap.size W w1 := by
    rw [hw]
    repeat' (first | (with_reducible exact Below.refl _ _) | (with_reducible refine Rd.below_step ?_ (by assumption)) | (with_reducible refine Rd.below_alloc ?_ _) | (with_reducible refine Rd.below_drewN ?_ _) | (with_reducible refine Below.drew ?_) | (with_reducible refine Below.setCell ?_ ?_ _) | (with_reducible refine Rd.below_setRow ?_ ?_ _) | go_size | (simp only [World.size_alloc]; omega) | omega)
  clear hw
  go_wp2_with fail
  go_loopw [8] (fun i X => ∃ k : Nat, k ≤ 3 ∧ i = .int .i64 k ∧ Hid (∀ j, j < 2 * k → -128 ≤ ClM.g [a0, a1, a2, a3, a4, a5] j ∧ ClM.g [a0, a1, a2, a3, a4, a5] j ≤ 128) ∧ Hid (blk X W.heap.size = some (.cells #[.int .i64 a0, .int .i64 a1, .int .i64 a2, .int .i64 a3, .int .i64 a4, .int .i64 a5] 49 (0, 0)) ∧ blk X (W.heap.size + 1) = some (.cells (if k = 0 then #[.int .i64 0, .int .i64 0, .int .i64 0, .int .i64 0, .int .i64 0, .int .i64 0, .int .i64 0, .int .i64 0, .int .i64 0, .int .i64 0, .int .i64 0, .int .i64 0, .int .i64 0, .int .i64 0, .int .i64 0, .int .i64 0, .int .i64 0, .int .i64 0] else if k = 1 then #[.int .i64 (512 * a0), .int .i64 (512 * a1), .int .i64 0, .int .i64 65536, .int .i64 0, .int .i64 7, .int .i64 0, .int .i64 0, .int .i64 0, .int .i64 0, .int .i64 0, .int .i64 0, .int .i64 0, .int .i64 0, .int .i64 0, .int .i64 0, .int .i64 0, .int .i64 0] else if k = 2 then #[.int .i64 (512 * a0), .int .i64 (512 * a1), .int .i64 0, .int .i64 65536, .int .i64 0, .int .i64 7, .int .i64 (512 * a2), .int .i64 (512 * a3), .int .i64 0, .int .i64 65536, .int .i64 1, .int .i64 7, .int .i64 0, .int .i64 0, .int .i64 0, .int .i64 0, .int .i64 0, .int .i64 0] else #[.int .i64 (512 * a0), .int .i64 (512 * a1), .int .i64 0, .int .i64 65536, .int .i64 0, .int .i64 7, .int .i64 (512 * a2), .int .i64 (512 * a3), .int .i64 0, .int .i64 65536, .int .i64 1, .int .i64 7, .int .i64 (512 * a4), .int .i64 (512 * a5), .int .i64 0, .int .i64 65536, .int .i64 2, .int .i64 7]) 50 (0, 0))) ∧ Below W.heap.size W X) (fun i _ => 3 - (intOf i).toNat)
  case atStart => exact ⟨0, by omega, rfl, Lib.hid (fun j hj => absurd hj (by omega)), Lib.hid ⟨bP, bV⟩, L1⟩
  case round =>
    obtain ⟨k, hk, rfl, HA, HB, hb⟩ := hrel
    rename World => X
    clear bP bV L1
    by_cases hlt : k < 3
    · have h3 : k = 0 ∨ k = 1 ∨ k = 2 := by omega
      rcases h3 with rfl | rfl | rfl
      · have bP : blk X W.heap.size = some (.cells #[.int .i64 a0, .int .i64 a1, .int .i64 a2, .int .i64 a3, .int .i64 a4, .int .i64 a5] 49 (0, 0)) := HB.out.1
        have bV : blk X (W.heap.size + 1) = some (.cells #[.int .i64 0, .int .i64 0, .int .i64 0, .int .i64 0, .int .i64 0, .int .i64 0, .int .i64 0, .int .i64 0, .int .i64 0, .int .i64 0, .int .i64 0, .int .i64 0, .int .i64 0, .int .i64 0, .int .i64 0, .int .i64 0, .int .i64 0, .int .i64 0] 50 (0, 0)) := HB.out.2
        clear HB
        have c0 : X.cell? ⟨W.heap.size, 0, none⟩ = some (.int .i64 a0) := by rw [blk_cell bP]; rfl
        have c1 : X.cell? ⟨W.heap.size, 1, none⟩ = some (.int .i64 a1) := by rw [blk_cell bP]; rfl
        by_cases e0 : -128 ≤ a0
        case neg =>
          have f0 : decide (a0 < -128) = true := decide_eq_true (by omega)
          go_wp2_with fail
          refine (awake_any _).mono ?_
          rintro e w2 ⟨rfl, hb2⟩
          have L2 : Below W.heap.size W w2 := by repeat' (first | (with_reducible exact Below.refl _ _) | (with_reducible refine Rd.below_step ?_ (by assumption)) | (with_reducible refine Rd.below_alloc ?_ _) | (with_reducible refine Rd.below_drewN ?_ _) | (with_reducible refine Below.drew ?_) | (with_reducible refine Below.setCell ?_ ?_ _) | (with_reducible refine Rd.below_setRow ?_ ?_ _) | go_size | (simp only [World.size_alloc]; omega) | omega)
          go_wp2
          go_ret
          exact ⟨rfl, L2⟩
        have f0 : decide (a0 < -128) = false := decide_eq_false (by omega)
        by_cases e1 : a0 ≤ 128
        case neg =>
          have f1 : decide (128 < a0) = true := decide_eq_true (by omega)
          go_wp2_with fail
          refine (awake_any _).mono ?_
          rintro e w2 ⟨rfl, hb2⟩
          have L2 : Below W.heap.size W w2 := by repeat' (first | (with_reducible exact Below.refl _ _) | (with_reducible refine Rd.below_step ?_ (by assumption)) | (with_reducible refine Rd.below_alloc ?_ _) | (with_reducible refine Rd.below_drewN ?_ _) | (with_reducible refine Below.drew ?_) | (with_reducible refine Below.setCell ?_ ?_ _) | (with_reducible refine Rd.below_setRow ?_ ?_ _) | go_size | (simp only [World.size_alloc]; omega) | omega)
          go_wp2
          go_ret
          exact ⟨rfl, L2⟩
        have f1 : decide (128 < a0) = false := decide_eq_false (by omega)
        by_cases e2 : -128 ≤ a1
        case neg =>
          have f2 : decide (a1 < -128) = true := decide_eq_true (by omega)
          go_wp2_with fail
          refine (awake_any _).mono ?_
          rintro e w2 ⟨rfl, hb2⟩
          have L2 : Below W.heap.size W w2 := by repeat' (first | (with_reducible exact Below.refl _ _) | (with_reducible refine Rd.below_step ?_ (by assumption)) | (with_reducible refine Rd.below_alloc ?_ _) | (with_reducible refine Rd.below_drewN ?_ _) | (with_reducible refine Below.drew ?_) | (with_reducible refine Below.setCell ?_ ?_ _) | (with_reducible refine Rd.below_setRow ?_ ?_ _) | go_size | (simp only [World.size_alloc]; omega) | omega)
          go_wp2
          go_ret
          exact ⟨rfl, L2⟩
        have f2 : decide (a1 < -128) = false := decide_eq_false (by omega)
        by_cases e3 : a1 ≤ 128
        case neg =>
          have f3 : decide (128 < a1) = true := decide_eq_true (by omega)
          go_wp2_with fail
          refine (awake_any _).mono ?_
          rintro e w2 ⟨rfl, hb2⟩
          have L2 : Below W.heap.size W w2 := by repeat' (first | (with_reducible exact Below.refl _ _) | (with_reducible refine Rd.below_step ?_ (by assumption)) | (with_reducible refine Rd.below_alloc ?_ _) | (with_reducible refine Rd.below_drewN ?_ _) | (with_reducible refine Below.drew ?_) | (with_reducible refine Below.setCell ?_ ?_ _) | (with_reducible refine Rd.below_setRow ?_ ?_ _) | go_size | (simp only [World.size_alloc]; omega) | omega)
          go_wp2
          go_ret
          exact ⟨rfl, L2⟩
        have f3 : decide (128 < a1) = false := decide_eq_false (by omega)
        have HA2 := Lib.hid (step_all (p := fun j => -128 ≤ ClM.g [a0, a1, a2, a3, a4, a5] j ∧ ClM.g [a0, a1, a2, a3, a4, a5] j ≤ 128) (k := 0) HA.out ⟨e0, e1⟩ ⟨e2, e3⟩)
        have lP := blk_lt bP
        have lV := blk_lt bV
        have y0 := Go.cell_regrown (w := X) (a := ⟨W.heap.size, 0, none⟩) (v := .int .i64 a0) c0
        have y1 := Go.cell_regrown (w := X) (a := ⟨W.heap.size, 1, none⟩) (v := .int .i64 a1) c1
        go_upto_region 9 with (fail)
        (refine Reg.below_tail 15 (by kernel_rfl) (by kernel_rfl) ?_; simp only [List.take_succ_cons, List.take_zero, List.drop_succ_cons, List.drop_zero]; (repeat (go_big_quiet_step ((fail)))); refine wpQuiet_nil ?_)
        intro w2 hU
        have KU := Rd.below_of_regrown hU
        clear hU y0 y1 c0 c1
        have bP2 := (blk_below KU _ lP).trans bP
        have bV2 := (blk_below KU _ lV).trans bV
        have L2 : Below W.heap.size W w2 := by repeat' (first | (with_reducible exact Below.refl _ _) | (with_reducible refine Rd.below_step ?_ (by assumption)) | (with_reducible refine Rd.below_alloc ?_ _) | (with_reducible refine Rd.below_drewN ?_ _) | (with_reducible refine Below.drew ?_) | (with_reducible refine Below.setCell ?_ ?_ _) | (with_reducible refine Rd.below_setRow ?_ ?_ _) | go_size | (simp only [World.size_alloc]; omega) | omega)
        clear KU bP bV hb lP lV
        go_wp2
        go_roundw
        case rel =>
          refine ⟨1, by omega, rfl, HA2, ⟨?_, ?_⟩, by repeat' (first | (with_reducible exact Below.refl _ _) | (with_reducible refine Rd.below_step ?_ (by assumption)) | (with_reducible refine Rd.below_alloc ?_ _) | (with_reducible refine Rd.below_drewN ?_ _) | (with_reducible refine Below.drew ?_) | (with_reducible refine Below.setCell ?_ ?_ _) | (with_reducible refine Rd.below_setRow ?_ ?_ _) | go_size | (simp only [World.size_alloc]; omega) | omega)⟩
          · rw [blk_setRow_other _ _ _ _ (by omega)]
            exact bP2
          · exact blk_setRow_of bV2 _
        case measure => simp [intOf]
      · have bP : blk X W.heap.size = some (.cells #[.int .i64 a0, .int .i64 a1, .int .i64 a2, .int .i64 a3, .int .i64 a4, .int .i64 a5] 49 (0, 0)) := HB.out.1
        have bV : blk X (W.heap.size + 1) = some (.cells #[.int .i64 (512 * a0), .int .i64 (512 * a1), .int .i64 0, .int .i64 65536, .int .i64 0, .int .i64 7, .int .i64 0, .int .i64 0, .int .i64 0, .int .i64 0, .int .i64 0, .int .i64 0, .int .i64 0, .int .i64 0, .int .i64 0, .int .i64 0, .int .i64 0, .int .i64 0] 50 (0, 0)) := HB.out.2
        clear HB
        have c0 : X.cell? ⟨W.heap.size, 2, none⟩ = some (.int .i64 a2) := by rw [blk_cell bP]; rfl
        have c1 : X.cell? ⟨W.heap.size, 3, none⟩ = some (.int .i64 a3) := by rw [blk_cell bP]; rfl
        by_cases e0 : -128 ≤ a2
        case neg =>
          have f0 : decide (a2 < -128) = true := decide_eq_true (by omega)
          go_wp2_with fail
          refine (awake_any _).mono ?_
          rintro e w2 ⟨rfl, hb2⟩
          have L2 : Below W.heap.size W w2 := by repeat' (first | (with_reducible exact Below.refl _ _) | (with_reducible refine Rd.below_step ?_ (by assumption)) | (with_reducible refine Rd.below_alloc ?_ _) | (with_reducible refine Rd.below_drewN ?_ _) | (with_reducible refine Below.drew ?_) | (with_reducible refine Below.setCell ?_ ?_ _) | (with_reducible refine Rd.below_setRow ?_ ?_ _) | go_size | (simp only [World.size_alloc]; omega) | omega)
          go_wp2
          go_ret
          exact ⟨rfl, L2⟩
        have f0 : decide (a2 < -128) = false := decide_eq_false (by omega)
        by_cases e1 : a2 ≤ 128
        case neg =>
          have f1 : decide (128 < a2) = true := decide_eq_true (by omega)
          go_wp2_with fail
          refine (awake_any _).mono ?_
          rintro e w2 ⟨rfl, hb2⟩
          have L2 : Below W.heap.size W w2 := by repeat' (first | (with_reducible exact Below.refl _ _) | (with_reducible refine Rd.below_step ?_ (by assumption)) | (with_reducible refine Rd.below_alloc ?_ _) | (with_reducible refine Rd.below_drewN ?_ _) | (with_reducible refine Below.drew ?_) | (with_reducible refine Below.setCell ?_ ?_ _) | (with_reducible refine Rd.below_setRow ?_ ?_ _) | go_size | (simp only [World.size_alloc]; omega) | omega)
          go_wp2
          go_ret
          exact ⟨rfl, L2⟩
        have f1 : decide (128 < a2) = false := decide_eq_false (by omega)
        by_cases e2 : -128 ≤ a3
        case neg =>
          have f2 : decide (a3 < -128) = true := decide_eq_true (by omega)
          go_wp2_with fail
          refine (awake_any _).mono ?_
          rintro e w2 ⟨rfl, hb2⟩
          have L2 : Below W.heap.size W w2 := by repeat' (first | (with_reducible exact Below.refl _ _) | (with_reducible refine Rd.below_step ?_ (by assumption)) | (with_reducible refine Rd.below_alloc ?_ _) | (with_reducible refine Rd.below_drewN ?_ _) | (with_reducible refine Below.drew ?_) | (with_reducible refine Below.setCell ?_ ?_ _) | (with_reducible refine Rd.below_setRow ?_ ?_ _) | go_size | (simp only [World.size_alloc]; omega) | omega)
          go_wp2
          go_ret
          exact ⟨rfl, L2⟩
        have f2 : decide (a3 < -128) = false := decide_eq_false (by omega)
        by_cases e3 : a3 ≤ 128
        case neg =>
          have f3 : decide (128 < a3) = true := decide_eq_true (by omega)
          go_wp2_with fail
          refine (awake_any _).mono ?_
          rintro e w2 ⟨rfl, hb2⟩
          have L2 : Below W.heap.size W w2 := by repeat' (first | (with_reducible exact Below.refl _ _) | (with_reducible refine Rd.below_step ?_ (by assumption)) | (with_reducible refine Rd.below_alloc ?_ _) | (with_reducible refine Rd.below_drewN ?_ _) | (with_reducible refine Below.drew ?_) | (with_reducible refine Below.setCell ?_ ?_ _) | (with_reducible refine Rd.below_setRow ?_ ?_ _) | go_size | (simp only [World.size_alloc]; omega) | omega)
          go_wp2
          go_ret
          exact ⟨rfl, L2⟩
        have f3 : decide (128 < a3) = false := decide_eq_false (by omega)
        have HA2 := Lib.hid (step_all (p := fun j => -128 ≤ ClM.g [a0, a1, a2, a3, a4, a5] j ∧ ClM.g [a0, a1, a2, a3, a4, a5] j ≤ 128) (k := 1) HA.out ⟨e0, e1⟩ ⟨e2, e3⟩)
        have lP := blk_lt bP
        have lV := blk_lt bV
        have y0 := Go.cell_regrown (w := X) (a := ⟨W.heap.size, 2, none⟩) (v := .int .i64 a2) c0
        have y1 := Go.cell_regrown (w := X) (a := ⟨W.heap.size, 3, none⟩) (v := .int .i64 a3) c1
        go_upto_region 9 with (fail)
        (refine Reg.below_tail 15 (by kernel_rfl) (by kernel_rfl) ?_; simp only [List.take_succ_cons, List.take_zero, List.drop_succ_cons, List.drop_zero]; (repeat (go_big_quiet_step ((fail)))); refine wpQuiet_nil ?_)
        intro w2 hU
        have KU := Rd.below_of_regrown hU
        clear hU y0 y1 c0 c1
        have bP2 := (blk_below KU _ lP).trans bP
        have bV2 := (blk_below KU _ lV).trans bV
        have L2 : Below W.heap.size W w2 := by repeat' (first | (with_reducible exact Below.refl _ _) | (with_reducible refine Rd.below_step ?_ (by assumption)) | (with_reducible refine Rd.below_alloc ?_ _) | (with_reducible refine Rd.below_drewN ?_ _) | (with_reducible refine Below.drew ?_) | (with_reducible refine Below.setCell ?_ ?_ _) | (with_reducible refine Rd.below_setRow ?_ ?_ _) | go_size | (simp only [World.size_alloc]; omega) | omega)
        clear KU bP bV hb lP lV
        go_wp2
        go_roundw
        case rel =>
          refine ⟨2, by omega, rfl, HA2, ⟨?_, ?_⟩, by repeat' (first | (with_reducible exact Below.refl _ _) | (with_reducible refine Rd.below_step ?_ (by assumption)) | (with_reducible refine Rd.below_alloc ?_ _) | (with_reducible refine Rd.below_drewN ?_ _) | (with_reducible refine Below.drew ?_) | (with_reducible refine Below.setCell ?_ ?_ _) | (with_reducible refine Rd.below_setRow ?_ ?_ _) | go_size | (simp only [World.size_alloc]; omega) | omega)⟩
          · rw [blk_setRow_other _ _ _ _ (by omega)]
            exact bP2
          · exact blk_setRow_of bV2 _
        case measure => simp [intOf]
      · have bP : blk X W.heap.size = some (.cells #[.int .i64 a0, .int .i64 a1, .int .i64 a2, .int .i64 a3, .int .i64 a4, .int .i64 a5] 49 (0, 0)) := HB.out.1
        have bV : blk X (W.heap.size + 1) = some (.cells #[.int .i64 (512 * a0), .int .i64 (512 * a1), .int .i64 0, .int .i64 65536, .int .i64 0, .int .i64 7, .int .i64 (512 * a2), .int .i64 (512 * a3), .int .i64 0, .int .i64 65536, .int .i64 1, .int .i64 7, .int .i64 0, .int .i64 0, .int .i64 0, .int .i64 0, .int .i64 0, .int .i64 0] 50 (0, 0)) := HB.out.2
        clear HB
        have c0 : X.cell? ⟨W.heap.size, 4, none⟩ = some (.int .i64 a4) := by rw [blk_cell bP]; rfl
        have c1 : X.cell? ⟨W.heap.size, 5, none⟩ = some (.int .i64 a5) := by rw [blk_cell bP]; rfl
        by_cases e0 : -128 ≤ a4
        case neg =>
          have f0 : decide (a4 < -128) = true := decide_eq_true (by omega)
          go_wp2_with fail
          refine (awake_any _).mono ?_
          rintro e w2 ⟨rfl, hb2⟩
          have L2 : Below W.heap.size W w2 := by repeat' (first | (with_reducible exact Below.refl _ _) | (with_reducible refine Rd.below_step ?_ (by assumption)) | (with_reducible refine Rd.below_alloc ?_ _) | (with_reducible refine Rd.below_drewN ?_ _) | (with_reducible refine Below.drew ?_) | (with_reducible refine Below.setCell ?_ ?_ _) | (with_reducible refine Rd.below_setRow ?_ ?_ _) | go_size | (simp only [World.size_alloc]; omega) | omega)
          go_wp2
          go_ret
          exact ⟨rfl, L2⟩
        have f0 : decide (a4 < -128) = false := decide_eq_false (by omega)
        by_cases e1 : a4 ≤ 128
        case neg =>
          have f1 : decide (128 < a4) = true := decide_eq_true (by omega)
          go_wp2_with fail
          refine (awake_any _).mono ?_
          rintro e w2 ⟨rfl, hb2⟩
          have L2 : Below W.heap.size W w2 := by repeat' (first | (with_reducible exact Below.refl _ _) | (with_reducible refine Rd.below_step ?_ (by assumption)) | (with_reducible refine Rd.below_alloc ?_ _) | (with_reducible refine Rd.below_drewN ?_ _) | (with_reducible refine Below.drew ?_) | (with_reducible refine Below.setCell ?_ ?_ _) | (with_reducible refine Rd.below_setRow ?_ ?_ _) | go_size | (simp only [World.size_alloc]; omega) | omega)
          go_wp2
          go_ret
          exact ⟨rfl, L2⟩
        have f1 : decide (128 < a4) = false := decide_eq_false (by omega)
        by_cases e2 : -128 ≤ a5
        case neg =>
          have f2 : decide (a5 < -128) = true := decide_eq_true (by omega)
          go_wp2_with fail
          refine (awake_any _).mono ?_
          rintro e w2 ⟨rfl, hb2⟩
          have L2 : Below W.heap.size W w2 := by repeat' (first | (with_reducible exact Below.refl _ _) | (with_reducible refine Rd.below_step ?_ (by assumption)) | (with_reducible refine Rd.below_alloc ?_ _) | (with_reducible refine Rd.below_drewN ?_ _) | (with_reducible refine Below.drew ?_) | (with_reducible refine Below.setCell ?_ ?_ _) | (with_reducible refine Rd.below_setRow ?_ ?_ _) | go_size | (simp only [World.size_alloc]; omega) | omega)
          go_wp2
          go_ret
          exact ⟨rfl, L2⟩
        have f2 : decide (a5 < -128) = false := decide_eq_false (by omega)
        by_cases e3 : a5 ≤ 128
        case neg =>
          have f3 : decide (128 < a5) = true := decide_eq_true (by omega)
          go_wp2_with fail
          refine (awake_any _).mono ?_
          rintro e w2 ⟨rfl, hb2⟩
          have L2 : Below W.heap.size W w2 := by repeat' (first | (with_reducible exact Below.refl _ _) | (with_reducible refine Rd.below_step ?_ (by assumption)) | (with_reducible refine Rd.below_alloc ?_ _) | (with_reducible refine Rd.below_drewN ?_ _) | (with_reducible refine Below.drew ?_) | (with_reducible refine Below.setCell ?_ ?_ _) | (with_reducible refine Rd.below_setRow ?_ ?_ _) | go_size | (simp only [World.size_alloc]; omega) | omega)
          go_wp2
          go_ret
          exact ⟨rfl, L2⟩
        have f3 : decide (128 < a5) = false := decide_eq_false (by omega)
        have HA2 := Lib.hid (step_all (p := fun j => -128 ≤ ClM.g [a0, a1, a2, a3, a4, a5] j ∧ ClM.g [a0, a1, a2, a3, a4, a5] j ≤ 128) (k := 2) HA.out ⟨e0, e1⟩ ⟨e2, e3⟩)
        have lP := blk_lt bP
        have lV := blk_lt bV
        have y0 := Go.cell_regrown (w := X) (a := ⟨W.heap.size, 4, none⟩) (v := .int .i64 a4) c0
        have y1 := Go.cell_regrown (w := X) (a := ⟨W.heap.size, 5, none⟩) (v := .int .i64 a5) c1
        go_upto_region 9 with (fail)
        (refine Reg.below_tail 15 (by kernel_rfl) (by kernel_rfl) ?_; simp only [List.take_succ_cons, List.take_zero, List.drop_succ_cons, List.drop_zero]; (repeat (go_big_quiet_step ((fail)))); refine wpQuiet_nil ?_)
        intro w2 hU
        have KU := Rd.below_of_regrown hU
        clear hU y0 y1 c0 c1
        have bP2 := (blk_below KU _ lP).trans bP
        have bV2 := (blk_below KU _ lV).trans bV
        have L2 : Below W.heap.size W w2 := by repeat' (first | (with_reducible exact Below.refl _ _) | (with_reducible refine Rd.below_step ?_ (by assumption)) | (with_reducible refine Rd.below_alloc ?_ _) | (with_reducible refine Rd.below_drewN ?_ _) | (with_reducible refine Below.drew ?_) | (with_reducible refine Below.setCell ?_ ?_ _) | (with_reducible refine Rd.below_setRow ?_ ?_ _) | go_size | (simp only [World.size_alloc]; omega) | omega)
        clear KU bP bV hb lP lV
        go_wp2
        go_roundw
        case rel =>
          refine ⟨3, by omega, rfl, HA2, ⟨?_, ?_⟩, by repeat' (first | (with_reducible exact Below.refl _ _) | (with_reducible refine Rd.below_step ?_ (by assumption)) | (with_reducible refine Rd.below_alloc ?_ _) | (with_reducible refine Rd.below_drewN ?_ _) | (with_reducible refine Below.drew ?_) | (with_reducible refine Below.setCell ?_ ?_ _) | (with_reducible refine Rd.below_setRow ?_ ?_ _) | go_size | (simp only [World.size_alloc]; omega) | omega)⟩
          · rw [blk_setRow_other _ _ _ _ (by omega)]
            exact bP2
          · exact blk_setRow_of bV2 _
        case measure => simp [intOf]
    · obtain rfl : k = 3 := by omega
      have bP : blk X W.heap.size = some (.cells #[.int .i64 a0, .int .i64 a1, .int .i64 a2, .int .i64 a3, .int .i64 a4, .int .i64 a5] 49 (0, 0)) := HB.out.1
      have bV : blk X (W.heap.size + 1) = some (.cells #[.int .i64 (512 * a0), .int .i64 (512 * a1), .int .i64 0, .int .i64 65536, .int .i64 0, .int .i64 7, .int .i64 (512 * a2), .int .i64 (512 * a3), .int .i64 0, .int .i64 65536, .int .i64 1, .int .i64 7, .int .i64 (512 * a4), .int .i64 (512 * a5), .int .i64 0, .int .i64 65536, .int .i64 2, .int .i64 7] 50 (0, 0)) := HB.out.2
      have CP := Lib.hid (placeFlat a0 a1 a2 a3 a4 a5 w h g0 g1 g2 g3 HA.out)
      have lP := blk_lt bP
      have lV := blk_lt bV
      clear HB
      go_upto_region 10 with (fail)
      refine Pred.region_vals (Pred.Of [
          Is (.agg (cs .i64 oneL)),
          Is (.pointer (some ⟨W.heap.size + 1, 0, none⟩)),
          Is (.agg #[.int .i64 (512 * a0), .int .i64 (512 * a1), .int .i64 0, .int .i64 65536, .int .i64 0, .int .i64 7]),
          Is (.pointer (some ⟨W.heap.size + 1, 6, none⟩)),
          Is (.agg #[.int .i64 (512 * a2), .int .i64 (512 * a3), .int .i64 0, .int .i64 65536, .int .i64 1, .int .i64 7]),
          Is (.pointer (some ⟨W.heap.size + 1, 12, none⟩)),
          Is (.agg #[.int .i64 (512 * a4), .int .i64 (512 * a5), .int .i64 0, .int .i64 65536, .int .i64 2, .int .i64 7]),
          Is (.agg #[.int .i64 (512 * a0), .int .i64 (512 * a1), .int .i64 0, .int .i64 65536, .int .i64 0, .int .i64 7, .int .i64 (512 * a2), .int .i64 (512 * a3), .int .i64 0, .int .i64 65536, .int .i64 1, .int .i64 7, .int .i64 (512 * a4), .int .i64 (512 * a5), .int .i64 0, .int .i64 65536, .int .i64 2, .int .i64 7, .int .i64 0, .int .u8 0, .int .u8 0, .int .u8 0, .int .u8 0]),
          Is (.int .i64 w),
          Is (.int .i64 h),
          PR 1 0 [[w * (128 + a0), h * (128 - a1), 32767, 65536, 0, 7, w * (128 + a2), h * (128 - a3), 32767, 65536, 1, 7, w * (128 + a4), h * (128 - a5), 32767, 65536, 2, 7]],
          PR 1 0 [[w * (128 + a0), h * (128 - a1), 32767, 65536, 0, 7, w * (128 + a2), h * (128 - a3), 32767, 65536, 1, 7, w * (128 + a4), h * (128 - a5), 32767, 65536, 2, 7]],
          SR 1 [[w * (128 + a0), h * (128 - a1), 32767, 65536, 0, 7, w * (128 + a2), h * (128 - a3), 32767, 65536, 1, 7, w * (128 + a4), h * (128 - a5), 32767, 65536, 2, 7]],
          Is (.int .i64 0),
          SR 1 [[w * (128 + a0), h * (128 - a1), 32767, 65536, 0, 7, w * (128 + a2), h * (128 - a3), 32767, 65536, 1, 7, w * (128 + a4), h * (128 - a5), 32767, 65536, 2, 7]],
          Is (.int .i64 0)]) (by kernel_rfl) (by kernel_rfl) (by kernel_rfl) (Pred.of_stab ?_) ?_ ?_
      · exact ⟨is_stab _, is_stab _, is_stab _, is_stab _, is_stab _, is_stab _, is_stab _, is_stab _, is_stab _, is_stab _, pr_stab _ _ _, pr_stab _ _ _, sr_stab _ _, is_stab _, sr_stab _ _, is_stab _, trivial⟩
      · refine ⟨?_, ?_, ?_, ?_, ?_, ?_, ?_, ?_, ?_, ?_, ?_, ?_, ?_, ?_, ?_, ?_, trivial⟩
        · intro b X hE hd hn hV
          refine Pred.yields_call (f := 14) (args := #[]) (Pred.wanted_none rfl) (by go_simp) ?_
          exact (VecF.rone_any _).mono fun e w2 ⟨he, hb⟩ => ⟨_, he, Pred.ext_below hb hE.size, rfl⟩
        · intro b X hE hd hn hV
          have r7 : b.tmps[7]?.getD undef = .pointer (some ⟨W.heap.size + 1, 0, none⟩) := (hn 7 (by kernel_rfl)).trans rfl
          exact Pred.yields_run (v := .pointer (some ⟨W.heap.size + 1, 0, none⟩)) (Pred.wanted_none rfl) (by go_simp) ⟨Pred.ext_refl _ _, rfl⟩
        · intro b X hE hd hn hV
          have r75 : b.tmps[75]?.getD undef = .pointer (some ⟨W.heap.size + 1, 0, none⟩) := hV 1 _ 75 rfl rfl (Pred.waits_near (by kernel_rfl) (by kernel_rfl))
          have q := (blk_below hE _ lV).trans bV
          have k0 : X.cell? ⟨W.heap.size + 1, 0, none⟩ = some (.int .i64 (512 * a0)) := by rw [blk_cell q]; rfl
          have k1 : X.cell? ⟨W.heap.size + 1, 1, none⟩ = some (.int .i64 (512 * a1)) := by rw [blk_cell q]; rfl
          have k2 : X.cell? ⟨W.heap.size + 1, 2, none⟩ = some (.int .i64 0) := by rw [blk_cell q]; rfl
          have k3 : X.cell? ⟨W.heap.size + 1, 3, none⟩ = some (.int .i64 65536) := by rw [blk_cell q]; rfl
          have k4 : X.cell? ⟨W.heap.size + 1, 4, none⟩ = some (.int .i64 0) := by rw [blk_cell q]; rfl
          have k5 : X.cell? ⟨W.heap.size + 1, 5, none⟩ = some (.int .i64 7) := by rw [blk_cell q]; rfl
          exact Pred.yields_run (v := .agg #[.int .i64 (512 * a0), .int .i64 (512 * a1), .int .i64 0, .int .i64 65536, .int .i64 0, .int .i64 7]) (Pred.wanted_none rfl) (by go_simp) ⟨Pred.ext_refl _ _, rfl⟩
        · intro b X hE hd hn hV
          have r7 : b.tmps[7]?.getD undef = .pointer (some ⟨W.heap.size + 1, 0, none⟩) := (hn 7 (by kernel_rfl)).trans rfl
          exact Pred.yields_run (v := .pointer (some ⟨W.heap.size + 1, 6, none⟩)) (Pred.wanted_none rfl) (by go_simp) ⟨Pred.ext_refl _ _, rfl⟩
        · intro b X hE hd hn hV
          have r77 : b.tmps[77]?.getD undef = .pointer (some ⟨W.heap.size + 1, 6, none⟩) := hV 3 _ 77 rfl rfl (Pred.waits_near (by kernel_rfl) (by kernel_rfl))
          have q := (blk_below hE _ lV).trans bV
          have k0 : X.cell? ⟨W.heap.size + 1, 6, none⟩ = some (.int .i64 (512 * a2)) := by rw [blk_cell q]; rfl
          have k1 : X.cell? ⟨W.heap.size + 1, 7, none⟩ = some (.int .i64 (512 * a3)) := by rw [blk_cell q]; rfl
          have k2 : X.cell? ⟨W.heap.size + 1, 8, none⟩ = some (.int .i64 0) := by rw [blk_cell q]; rfl
          have k3 : X.cell? ⟨W.heap.size + 1, 9, none⟩ = some (.int .i64 65536) := by rw [blk_cell q]; rfl
          have k4 : X.cell? ⟨W.heap.size + 1, 10, none⟩ = some (.int .i64 1) := by rw [blk_cell q]; rfl
          have k5 : X.cell? ⟨W.heap.size + 1, 11, none⟩ = some (.int .i64 7) := by rw [blk_cell q]; rfl
          exact Pred.yields_run (v := .agg #[.int .i64 (512 * a2), .int .i64 (512 * a3), .int .i64 0, .int .i64 65536, .int .i64 1, .int .i64 7]) (Pred.wanted_none rfl) (by go_simp) ⟨Pred.ext_refl _ _, rfl⟩
        · intro b X hE hd hn hV
          have r7 : b.tmps[7]?.getD undef = .pointer (some ⟨W.heap.size + 1, 0, none⟩) := (hn 7 (by kernel_rfl)).trans rfl
          exact Pred.yields_run (v := .pointer (some ⟨W.heap.size + 1, 12, none⟩)) (Pred.wanted_none rfl) (by go_simp) ⟨Pred.ext_refl _ _, rfl⟩
        · intro b X hE hd hn hV
          have r79 : b.tmps[79]?.getD undef = .pointer (some ⟨W.heap.size + 1, 12, none⟩) := hV 5 _ 79 rfl rfl (Pred.waits_near (by kernel_rfl) (by kernel_rfl))
          have q := (blk_below hE _ lV).trans bV
          have k0 : X.cell? ⟨W.heap.size + 1, 12, none⟩ = some (.int .i64 (512 * a4)) := by rw [blk_cell q]; rfl
          have k1 : X.cell? ⟨W.heap.size + 1, 13, none⟩ = some (.int .i64 (512 * a5)) := by rw [blk_cell q]; rfl
          have k2 : X.cell? ⟨W.heap.size + 1, 14, none⟩ = some (.int .i64 0) := by rw [blk_cell q]; rfl
          have k3 : X.cell? ⟨W.heap.size + 1, 15, none⟩ = some (.int .i64 65536) := by rw [blk_cell q]; rfl
          have k4 : X.cell? ⟨W.heap.size + 1, 16, none⟩ = some (.int .i64 2) := by rw [blk_cell q]; rfl
          have k5 : X.cell? ⟨W.heap.size + 1, 17, none⟩ = some (.int .i64 7) := by rw [blk_cell q]; rfl
          exact Pred.yields_run (v := .agg #[.int .i64 (512 * a4), .int .i64 (512 * a5), .int .i64 0, .int .i64 65536, .int .i64 2, .int .i64 7]) (Pred.wanted_none rfl) (by go_simp) ⟨Pred.ext_refl _ _, rfl⟩
        · intro b X hE hd hn hV
          have r76 : b.tmps[76]?.getD undef = .agg #[.int .i64 (512 * a0), .int .i64 (512 * a1), .int .i64 0, .int .i64 65536, .int .i64 0, .int .i64 7] := hV 2 _ 76 rfl rfl (Pred.waits_near (by kernel_rfl) (by kernel_rfl))
          have r78 : b.tmps[78]?.getD undef = .agg #[.int .i64 (512 * a2), .int .i64 (512 * a3), .int .i64 0, .int .i64 65536, .int .i64 1, .int .i64 7] := hV 4 _ 78 rfl rfl (Pred.waits_near (by kernel_rfl) (by kernel_rfl))
          have r80 : b.tmps[80]?.getD undef = .agg #[.int .i64 (512 * a4), .int .i64 (512 * a5), .int .i64 0, .int .i64 65536, .int .i64 2, .int .i64 7] := hV 6 _ 80 rfl rfl (Pred.waits_near (by kernel_rfl) (by kernel_rfl))
          exact Pred.yields_run (v := .agg #[.int .i64 (512 * a0), .int .i64 (512 * a1), .int .i64 0, .int .i64 65536, .int .i64 0, .int .i64 7, .int .i64 (512 * a2), .int .i64 (512 * a3), .int .i64 0, .int .i64 65536, .int .i64 1, .int .i64 7, .int .i64 (512 * a4), .int .i64 (512 * a5), .int .i64 0, .int .i64 65536, .int .i64 2, .int .i64 7, .int .i64 0, .int .u8 0, .int .u8 0, .int .u8 0, .int .u8 0]) (Pred.wanted_none rfl) (by go_simp) ⟨Pred.ext_refl _ _, rfl⟩
        · intro b X hE hd hn hV
          have r1 : b.tmps[1]?.getD undef = .int .i64 w := (hn 1 (by kernel_rfl)).trans rfl
          exact Pred.yields_run (v := .int .i64 w) (Pred.wanted_none rfl) (by go_simp) ⟨Pred.ext_refl _ _, rfl⟩
        · intro b X hE hd hn hV
          have r2 : b.tmps[2]?.getD undef = .int .i64 h := (hn 2 (by kernel_rfl)).trans rfl
          exact Pred.yields_run (v := .int .i64 h) (Pred.wanted_none rfl) (by go_simp) ⟨Pred.ext_refl _ _, rfl⟩
        · intro b X hE hd hn hV
          have r74 : b.tmps[74]?.getD undef = .agg (cs .i64 oneL) := hV 0 _ 74 rfl rfl (Pred.waits_near (by kernel_rfl) (by kernel_rfl))
          have r81 : b.tmps[81]?.getD undef = .agg #[.int .i64 (512 * a0), .int .i64 (512 * a1), .int .i64 0, .int .i64 65536, .int .i64 0, .int .i64 7, .int .i64 (512 * a2), .int .i64 (512 * a3), .int .i64 0, .int .i64 65536, .int .i64 1, .int .i64 7, .int .i64 (512 * a4), .int .i64 (512 * a5), .int .i64 0, .int .i64 65536, .int .i64 2, .int .i64 7, .int .i64 0, .int .u8 0, .int .u8 0, .int .u8 0, .int .u8 0] := hV 7 _ 81 rfl rfl (Pred.waits_near (by kernel_rfl) (by kernel_rfl))
          have r82 : b.tmps[82]?.getD undef = .int .i64 w := hV 8 _ 82 rfl rfl (Pred.waits_near (by kernel_rfl) (by kernel_rfl))
          have r83 : b.tmps[83]?.getD undef = .int .i64 h := hV 9 _ 83 rfl rfl (Pred.waits_near (by kernel_rfl) (by kernel_rfl))
          refine Pred.yields_call (f := 10) (args := #[.agg (cs .i64 oneL), .agg #[.int .i64 (512 * a0), .int .i64 (512 * a1), .int .i64 0, .int .i64 65536, .int .i64 0, .int .i64 7, .int .i64 (512 * a2), .int .i64 (512 * a3), .int .i64 0, .int .i64 65536, .int .i64 1, .int .i64 7, .int .i64 (512 * a4), .int .i64 (512 * a5), .int .i64 0, .int .i64 65536, .int .i64 2, .int .i64 7, .int .i64 0, .int .u8 0, .int .u8 0, .int .u8 0, .int .u8 0], .int .i64 w, .int .i64 h]) (Pred.wanted_none rfl) (by go_simp) ?_
          exact (CP.out _).mono fun e w2 ⟨⟨v, he, hp⟩, hb⟩ => ⟨v, he, Pred.ext_below hb hE.size, hp⟩
        · intro b X hE hd hn hV
          obtain ⟨ga84, ca84, r84, hr84⟩ : PR 1 0 [[w * (128 + a0), h * (128 - a1), 32767, 65536, 0, 7, w * (128 + a2), h * (128 - a3), 32767, 65536, 1, 7, w * (128 + a4), h * (128 - a5), 32767, 65536, 2, 7]] (b.tmps[84]?.getD undef) X := hV 10 _ 84 rfl rfl (Pred.waits_near (by kernel_rfl) (by kernel_rfl))
          exact Pred.yields_run (v := .tuple #[.slice ga84 1 ca84, .int .i64 0]) (Pred.wanted_none rfl) (by go_simp) ⟨Pred.ext_refl _ _, ga84, ca84, rfl, hr84⟩
        · intro b X hE hd hn hV
          obtain ⟨ga73, ca73, r73, hr73⟩ : PR 1 0 [[w * (128 + a0), h * (128 - a1), 32767, 65536, 0, 7, w * (128 + a2), h * (128 - a3), 32767, 65536, 1, 7, w * (128 + a4), h * (128 - a5), 32767, 65536, 2, 7]] (b.tmps[73]?.getD undef) X := hV 11 _ 73 rfl rfl (Pred.waits_near (by kernel_rfl) (by kernel_rfl))
          exact Pred.yields_run (v := .slice ga73 1 ca73) (Pred.wanted_none rfl) (by go_simp) ⟨Pred.ext_refl _ _, ga73, ca73, rfl, hr73⟩
        · intro b X hE hd hn hV
          obtain ⟨ga73, ca73, r73, hr73⟩ : PR 1 0 [[w * (128 + a0), h * (128 - a1), 32767, 65536, 0, 7, w * (128 + a2), h * (128 - a3), 32767, 65536, 1, 7, w * (128 + a4), h * (128 - a5), 32767, 65536, 2, 7]] (b.tmps[73]?.getD undef) X := hV 11 _ 73 rfl rfl (Pred.waits_near (by kernel_rfl) (by kernel_rfl))
          exact Pred.yields_run (v := .int .i64 0) (Pred.wanted_none rfl) (by go_simp) ⟨Pred.ext_refl _ _, rfl⟩
        · intro b X hE hd hn hV
          obtain ⟨ga85, ca85, r85, hr85⟩ : SR 1 [[w * (128 + a0), h * (128 - a1), 32767, 65536, 0, 7, w * (128 + a2), h * (128 - a3), 32767, 65536, 1, 7, w * (128 + a4), h * (128 - a5), 32767, 65536, 2, 7]] (b.tmps[85]?.getD undef) X := hV 12 _ 85 rfl rfl (Pred.waits_near (by kernel_rfl) (by kernel_rfl))
          exact Pred.yields_run (v := .slice ga85 1 ca85) (Pred.wanted_none rfl) (by go_simp) ⟨Pred.ext_refl _ _, ga85, ca85, rfl, hr85⟩
        · intro b X hE hd hn hV
          have r86 : b.tmps[86]?.getD undef = .int .i64 0 := hV 13 _ 86 rfl rfl (Pred.waits_near (by kernel_rfl) (by kernel_rfl))
          exact Pred.yields_run (v := .int .i64 0) (Pred.wanted_none rfl) (by go_simp) ⟨Pred.ext_refl _ _, rfl⟩
      intro v w3 hE hv
      have e0 : v 0 = .agg (cs .i64 oneL) := hv 0 _ 74 rfl rfl
      have e1 : v 1 = .pointer (some ⟨W.heap.size + 1, 0, none⟩) := hv 1 _ 75 rfl rfl
      have e2 : v 2 = .agg #[.int .i64 (512 * a0), .int .i64 (512 * a1), .int .i64 0, .int .i64 65536, .int .i64 0, .int .i64 7] := hv 2 _ 76 rfl rfl
      have e3 : v 3 = .pointer (some ⟨W.heap.size + 1, 6, none⟩) := hv 3 _ 77 rfl rfl
      have e4 : v 4 = .agg #[.int .i64 (512 * a2), .int .i64 (512 * a3), .int .i64 0, .int .i64 65536, .int .i64 1, .int .i64 7] := hv 4 _ 78 rfl rfl
      have e5 : v 5 = .pointer (some ⟨W.heap.size + 1, 12, none⟩) := hv 5 _ 79 rfl rfl
      have e6 : v 6 = .agg #[.int .i64 (512 * a4), .int .i64 (512 * a5), .int .i64 0, .int .i64 65536, .int .i64 2, .int .i64 7] := hv 6 _ 80 rfl rfl
      have e7 : v 7 = .agg #[.int .i64 (512 * a0), .int .i64 (512 * a1), .int .i64 0, .int .i64 65536, .int .i64 0, .int .i64 7, .int .i64 (512 * a2), .int .i64 (512 * a3), .int .i64 0, .int .i64 65536, .int .i64 1, .int .i64 7, .int .i64 (512 * a4), .int .i64 (512 * a5), .int .i64 0, .int .i64 65536, .int .i64 2, .int .i64 7, .int .i64 0, .int .u8 0, .int .u8 0, .int .u8 0, .int .u8 0] := hv 7 _ 81 rfl rfl
      have e8 : v 8 = .int .i64 w := hv 8 _ 82 rfl rfl
      have e9 : v 9 = .int .i64 h := hv 9 _ 83 rfl rfl
      obtain ⟨ga10, ca10, e10, hr10⟩ : PR 1 0 [[w * (128 + a0), h * (128 - a1), 32767, 65536, 0, 7, w * (128 + a2), h * (128 - a3), 32767, 65536, 1, 7, w * (128 + a4), h * (128 - a5), 32767, 65536, 2, 7]] (v 10) w3 := hv 10 _ 84 rfl rfl
      obtain ⟨ga11, ca11, e11, hr11⟩ : PR 1 0 [[w * (128 + a0), h * (128 - a1), 32767, 65536, 0, 7, w * (128 + a2), h * (128 - a3), 32767, 65536, 1, 7, w * (128 + a4), h * (128 - a5), 32767, 65536, 2, 7]] (v 11) w3 := hv 11 _ 73 rfl rfl
      obtain ⟨gaq, caq, e12, hrq⟩ : SR 1 [[w * (128 + a0), h * (128 - a1), 32767, 65536, 0, 7, w * (128 + a2), h * (128 - a3), 32767, 65536, 1, 7, w * (128 + a4), h * (128 - a5), 32767, 65536, 2, 7]] (v 12) w3 := hv 12 _ 85 rfl rfl
      have e13 : v 13 = .int .i64 0 := hv 13 _ 86 rfl rfl
      obtain ⟨ga12, ca12, e14, hr12⟩ : SR 1 [[w * (128 + a0), h * (128 - a1), 32767, 65536, 0, 7, w * (128 + a2), h * (128 - a3), 32767, 65536, 1, 7, w * (128 + a4), h * (128 - a5), 32767, 65536, 2, 7]] (v 14) w3 := hv 14 _ 9 rfl rfl
      have e15 : v 15 = .int .i64 0 := hv 15 _ 10 rfl rfl
      simp only [Pred.putsF_cons, Pred.putsF_nil, Nat.zero_add, Nat.reduceAdd, e0, e1, e2, e3, e4, e5, e6, e7, e8, e9, e10, e11, e12, e13, e14, e15, Act.put, List.setIfInBounds_toArray, List.set_cons_zero, List.set_cons_succ]
      clear e0 e1 e2 e3 e4 e5 e6 e7 e8 e9 e10 e11 e12 e13 e14 e15 hv
      have bP3 := (blk_below hE _ lP).trans bP
      have L3 : Below W.heap.size W w3 := by repeat' (first | (with_reducible exact Below.refl _ _) | (with_reducible refine Rd.below_step ?_ (by assumption)) | (with_reducible refine Rd.below_alloc ?_ _) | (with_reducible refine Rd.below_drewN ?_ _) | (with_reducible refine Below.drew ?_) | (with_reducible refine Below.setCell ?_ ?_ _) | (with_reducible refine Rd.below_setRow ?_ ?_ _) | go_size | (simp only [World.size_alloc]; omega) | omega)
      obtain ⟨b, o, ea, hb0, hc⟩ : ∃ b o, ga12 = some ⟨b, o, none⟩ ∧ b < w3.heap.size ∧ ∀ i, i < [[w * (128 + a0), h * (128 - a1), 32767, 65536, 0, 7, w * (128 + a2), h * (128 - a3), 32767, 65536, 1, 7, w * (128 + a4), h * (128 - a5), 32767, 65536, 2, 7]].length → ∀ j, j < 18 → w3.cell? ⟨b, o + i * 18 + j, none⟩ = some (.int .i64 (ClM.g (at_ [[w * (128 + a0), h * (128 - a1), 32767, 65536, 0, 7, w * (128 + a2), h * (128 - a3), 32767, 65536, 1, 7, w * (128 + a4), h * (128 - a5), 32767, 65536, 2, 7]] i) j)) := by
        rcases hr12.2 with h | h
        · cases h
        · exact h
      subst ea
      have HC := Lib.hid (fun (X : World) (hX : Below w3.heap.size w3 X) (j : Nat) (hj : j < 18) => (hX.cell (p := ⟨b, o + 0 * 18 + j, none⟩) hb0).trans (hc 0 (by simp) j hj))
      have lP3 := blk_lt bP3
      have HP3 := Lib.hid bP3
      clear hE bP bV hb lP lV hc hr12 CP bP3
      clear hr10 hr11
      go_wp2_with fail
      go_loopw [11] (fun i X => ∃ k : Nat, k ≤ 3 ∧ i = .int .i64 k ∧ Below w3.heap.size w3 X) (fun i _ => 3 - (intOf i).toNat)
      case atStart => exact ⟨0, by omega, rfl, Below.refl _ _⟩
      case round =>
        obtain ⟨k, hk, rfl, hb⟩ := hrel
        rename World => Y0
        by_cases hlt : k < 3
        · have h3 : k = 0 ∨ k = 1 ∨ k = 2 := by omega
          have bP4 := (blk_below hb _ lP3).trans HP3.out
          rcases h3 with rfl | rfl | rfl
          · have y0 := Go.cell_regrown (w := Y0) (a := ⟨W.heap.size, 0, none⟩) (v := .int .i64 a0) (by rw [blk_cell bP4]; rfl)
            have y1 := Go.cell_regrown (w := Y0) (a := ⟨W.heap.size, 1, none⟩) (v := .int .i64 a1) (by rw [blk_cell bP4]; rfl)
            have b0 : -128 ≤ a0 ∧ a0 ≤ 128 := HA.out 0 (by omega)
            have b1 : -128 ≤ a1 ∧ a1 ≤ 128 := HA.out 1 (by omega)
            have q0 := Mid.prod_bd (a := w) (b := 128 + a0) (A := 32) (B := 256) (by omega) (by omega) (by omega) (by omega)
            have q1 := Mid.prod_bd (a := h) (b := 128 - a1) (A := 32) (B := 256) (by omega) (by omega) (by omega) (by omega)
            have z0 := Go.cell_regrown (w := Y0) (a := ⟨b, o, none⟩) (v := .int .i64 (w * (128 + a0))) (HC.out Y0 hb 0 (by omega))
            have z1 := Go.cell_regrown (w := Y0) (a := ⟨b, o + 1, none⟩) (v := .int .i64 (h * (128 - a1))) (HC.out Y0 hb 1 (by omega))
            have z2 := Go.cell_regrown (w := Y0) (a := ⟨b, o + 2, none⟩) (v := .int .i64 (32767)) (HC.out Y0 hb 2 (by omega))
            have z3 := Go.cell_regrown (w := Y0) (a := ⟨b, o + 3, none⟩) (v := .int .i64 (65536)) (HC.out Y0 hb 3 (by omega))
            have z4 := Go.cell_regrown (w := Y0) (a := ⟨b, o + 4, none⟩) (v := .int .i64 (0)) (HC.out Y0 hb 4 (by omega))
            have z5 := Go.cell_regrown (w := Y0) (a := ⟨b, o + 5, none⟩) (v := .int .i64 (7)) (HC.out Y0 hb 5 (by omega))
            have d9 : eqL [w * (128 + a0), h * (128 - a1), 32767, 65536, 0, 7] [w * (128 + a0), h * (128 - a1), 32767, 65536, 0, 7] = true := decide_eq_true rfl
            go_upto_region 16 with (fail)
            (refine wp_region_quiet_below (by kernel_rfl) (by kernel_rfl) ?_; (repeat (go_big_quiet_step ((fail)))); refine wpQuiet_nil ?_)
            intro w5 hU
            have KU := Rd.below_of_regrown hU
            have hs := hb.size
            clear hU y0 y1 z0 z1 z2 z3 z4 z5
            have L5 : Below w3.heap.size w3 w5 := by repeat' (first | (with_reducible exact Below.refl _ _) | (with_reducible refine Rd.below_step ?_ (by assumption)) | (with_reducible refine Rd.below_alloc ?_ _) | (with_reducible refine Rd.below_drewN ?_ _) | (with_reducible refine Below.drew ?_) | (with_reducible refine Below.setCell ?_ ?_ _) | (with_reducible refine Rd.below_setRow ?_ ?_ _) | go_size | (simp only [World.size_alloc]; omega) | omega)
            go_wp2
            go_roundw
            case rel => exact ⟨1, by omega, rfl, L5⟩
            case measure => simp [intOf]
          · have y0 := Go.cell_regrown (w := Y0) (a := ⟨W.heap.size, 2, none⟩) (v := .int .i64 a2) (by rw [blk_cell bP4]; rfl)
            have y1 := Go.cell_regrown (w := Y0) (a := ⟨W.heap.size, 3, none⟩) (v := .int .i64 a3) (by rw [blk_cell bP4]; rfl)
            have b0 : -128 ≤ a2 ∧ a2 ≤ 128 := HA.out 2 (by omega)
            have b1 : -128 ≤ a3 ∧ a3 ≤ 128 := HA.out 3 (by omega)
            have q0 := Mid.prod_bd (a := w) (b := 128 + a2) (A := 32) (B := 256) (by omega) (by omega) (by omega) (by omega)
            have q1 := Mid.prod_bd (a := h) (b := 128 - a3) (A := 32) (B := 256) (by omega) (by omega) (by omega) (by omega)
            have z0 := Go.cell_regrown (w := Y0) (a := ⟨b, o + 6, none⟩) (v := .int .i64 (w * (128 + a2))) (HC.out Y0 hb 6 (by omega))
            have z1 := Go.cell_regrown (w := Y0) (a := ⟨b, o + 7, none⟩) (v := .int .i64 (h * (128 - a3))) (HC.out Y0 hb 7 (by omega))
            have z2 := Go.cell_regrown (w := Y0) (a := ⟨b, o + 8, none⟩) (v := .int .i64 (32767)) (HC.out Y0 hb 8 (by omega))
            have z3 := Go.cell_regrown (w := Y0) (a := ⟨b, o + 9, none⟩) (v := .int .i64 (65536)) (HC.out Y0 hb 9 (by omega))
            have z4 := Go.cell_regrown (w := Y0) (a := ⟨b, o + 10, none⟩) (v := .int .i64 (1)) (HC.out Y0 hb 10 (by omega))
            have z5 := Go.cell_regrown (w := Y0) (a := ⟨b, o + 11, none⟩) (v := .int .i64 (7)) (HC.out Y0 hb 11 (by omega))
            have d9 : eqL [w * (128 + a2), h * (128 - a3), 32767, 65536, 1, 7] [w * (128 + a2), h * (128 - a3), 32767, 65536, 1, 7] = true := decide_eq_true rfl
            go_upto_region 16 with (fail)
            (refine wp_region_quiet_below (by kernel_rfl) (by kernel_rfl) ?_; (repeat (go_big_quiet_step ((fail)))); refine wpQuiet_nil ?_)
            intro w5 hU
            have KU := Rd.below_of_regrown hU
            have hs := hb.size
            clear hU y0 y1 z0 z1 z2 z3 z4 z5
            have L5 : Below w3.heap.size w3 w5 := by repeat' (first | (with_reducible exact Below.refl _ _) | (with_reducible refine Rd.below_step ?_ (by assumption)) | (with_reducible refine Rd.below_alloc ?_ _) | (with_reducible refine Rd.below_drewN ?_ _) | (with_reducible refine Below.drew ?_) | (with_reducible refine Below.setCell ?_ ?_ _) | (with_reducible refine Rd.below_setRow ?_ ?_ _) | go_size | (simp only [World.size_alloc]; omega) | omega)
            go_wp2
            go_roundw
            case rel => exact ⟨2, by omega, rfl, L5⟩
            case measure => simp [intOf]
          · have y0 := Go.cell_regrown (w := Y0) (a := ⟨W.heap.size, 4, none⟩) (v := .int .i64 a4) (by rw [blk_cell bP4]; rfl)
            have y1 := Go.cell_regrown (w := Y0) (a := ⟨W.heap.size, 5, none⟩) (v := .int .i64 a5) (by rw [blk_cell bP4]; rfl)
            have b0 : -128 ≤ a4 ∧ a4 ≤ 128 := HA.out 4 (by omega)
            have b1 : -128 ≤ a5 ∧ a5 ≤ 128 := HA.out 5 (by omega)
            have q0 := Mid.prod_bd (a := w) (b := 128 + a4) (A := 32) (B := 256) (by omega) (by omega) (by omega) (by omega)
            have q1 := Mid.prod_bd (a := h) (b := 128 - a5) (A := 32) (B := 256) (by omega) (by omega) (by omega) (by omega)
            have z0 := Go.cell_regrown (w := Y0) (a := ⟨b, o + 12, none⟩) (v := .int .i64 (w * (128 + a4))) (HC.out Y0 hb 12 (by omega))
            have z1 := Go.cell_regrown (w := Y0) (a := ⟨b, o + 13, none⟩) (v := .int .i64 (h * (128 - a5))) (HC.out Y0 hb 13 (by omega))
            have z2 := Go.cell_regrown (w := Y0) (a := ⟨b, o + 14, none⟩) (v := .int .i64 (32767)) (HC.out Y0 hb 14 (by omega))
            have z3 := Go.cell_regrown (w := Y0) (a := ⟨b, o + 15, none⟩) (v := .int .i64 (65536)) (HC.out Y0 hb 15 (by omega))
            have z4 := Go.cell_regrown (w := Y0) (a := ⟨b, o + 16, none⟩) (v := .int .i64 (2)) (HC.out Y0 hb 16 (by omega))
            have z5 := Go.cell_regrown (w := Y0) (a := ⟨b, o + 17, none⟩) (v := .int .i64 (7)) (HC.out Y0 hb 17 (by omega))
            have d9 : eqL [w * (128 + a4), h * (128 - a5), 32767, 65536, 2, 7] [w * (128 + a4), h * (128 - a5), 32767, 65536, 2, 7] = true := decide_eq_true rfl
            go_upto_region 16 with (fail)
            (refine wp_region_quiet_below (by kernel_rfl) (by kernel_rfl) ?_; (repeat (go_big_quiet_step ((fail)))); refine wpQuiet_nil ?_)
            intro w5 hU
            have KU := Rd.below_of_regrown hU
            have hs := hb.size
            clear hU y0 y1 z0 z1 z2 z3 z4 z5
            have L5 : Below w3.heap.size w3 w5 := by repeat' (first | (with_reducible exact Below.refl _ _) | (with_reducible refine Rd.below_step ?_ (by assumption)) | (with_reducible refine Rd.below_alloc ?_ _) | (with_reducible refine Rd.below_drewN ?_ _) | (with_reducible refine Below.drew ?_) | (with_reducible refine Below.setCell ?_ ?_ _) | (with_reducible refine Rd.below_setRow ?_ ?_ _) | go_size | (simp only [World.size_alloc]; omega) | omega)
            go_wp2
            go_roundw
            case rel => exact ⟨3, by omega, rfl, L5⟩
            case measure => simp [intOf]
        · obtain rfl : k = 3 := by omega
          have L4 : Below W.heap.size W Y0 := L3.trans (hb.mono L3.size)
          go_wp2_with fail
          refine (awake_any _).mono ?_
          rintro e w6 ⟨rfl, hb6⟩
          have L6 : Below W.heap.size W w6 := by repeat' (first | (with_reducible exact Below.refl _ _) | (with_reducible refine Rd.below_step ?_ (by assumption)) | (with_reducible refine Rd.below_alloc ?_ _) | (with_reducible refine Rd.below_drewN ?_ _) | (with_reducible refine Below.drew ?_) | (with_reducible refine Below.setCell ?_ ?_ _) | (with_reducible refine Rd.below_setRow ?_ ?_ _) | go_size | (simp only [World.size_alloc]; omega) | omega)
          go_wp2
          go_ret
          exact ⟨rfl, L6⟩
end Go.Proofs.Ytimfjogallcgnaa.ScP
