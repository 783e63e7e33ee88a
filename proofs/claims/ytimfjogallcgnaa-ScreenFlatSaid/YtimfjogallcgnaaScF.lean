/-
  A polygon as triangles: the program's.
-/
import Derived.Test.YtimfjogallcgnaaScE
namespace Go.Proofs.Ytimfjogallcgnaa.ScF
open Go.RowKit FixA Num Rd Go.Proofs.Ytimfjogallcgnaa.Row Mid ClM ClC ClD ScM ScA ScB ScE
set_option linter.unusedVariables false
set_option linter.unusedSimpArgs false
set_option maxRecDepth 10000
theorem pcS (a0 : Value) (a1 : Value) (a2 : Value) (a3 : Value) (a4 : Value) (a5 : Value) : Mid.piece #[a0, a1, a2, a3, a4, a5] 0 6 = #[a0, a1, a2, a3, a4, a5] := rfl
attribute [local go_sem ↓] load_spot store_spot
attribute [local go_sem] one_int run_load_spot run_store_spot rowLoad_eq rowStore_eq midLoad_eq pcS blk_alloc_at blk_alloc_old blk_drew blk_drewN blk_set_far blk_set_far' blk_grow setRow_alloc_at setRow_alloc_old setRow_drew setRow_drewN
set_option maxHeartbeats 4000000 in
theorem fan_any (row : ClM.Row) (ad : Option Addr) (c : Nat) (w h : Int) (W : World) (hr : RowAt W ad row) (hv : VxR row) (hm : row.length ≤ 1000) (hf : frameB w h = true) :
    Calls Try.prog 25 #[.slice ad row.length c, .int .i64 w, .int .i64 h] W fun e w' => (∃ ad' c', e = .returned (.slice ad' (fanV row w h).length c') ∧ TriAt w' ad' (fanV row w h)) ∧ Below W.heap.size W w' := by
  obtain ⟨n, hn⟩ : ∃ n, row.length = n := ⟨_, rfl⟩
  rw [hn]
  rw [hn] at hm
  have HN := Lib.hid hn
  have H := Lib.hid hr
  have HV := Lib.hid hv
  have FR := Lib.hid hf
  have FV : Hid (fanV row w h = trisK row w h (n - 2)) := by
    show fanV row w h = _
    unfold fanV; rw [HN.out]
  rw [FV.out]
  clear hn hr hv hf
  go_enter Try.func25, Try.ntmps25
  go_wp2_with fail
  go_loopw [7, 8] (fun v j wr => ∃ i m : Nat, i = m + 1 ∧ m ≤ n - 2 ∧ j = .int .i64 i ∧ Hid (wr.ownsRow W.heap.size 45 18 v (trisK row w h m).length (fl (trisK row w h m))) ∧ Below W.heap.size W wr) (fun _ j _ => n - (intOf j).toNat)
  case atStart => exact ⟨1, 0, by omega, by omega, rfl, World.ownsRow_nil _ _ _ _, by repeat' (first | (with_reducible exact Below.refl _ _) | (with_reducible refine Rd.below_step ?_ (by assumption)) | (with_reducible refine Rd.below_alloc ?_ _) | (with_reducible refine Rd.below_drewN ?_ _) | (with_reducible refine Below.drew ?_) | (with_reducible refine Below.setCell ?_ ?_ _) | (with_reducible refine Rd.below_setRow ?_ ?_ _) | go_size | (simp only [World.size_alloc]; omega) | omega)⟩
  case round =>
    obtain ⟨i, m, him, hmn, rfl, HO, hb⟩ := hrel
    by_cases hlt : m < n - 2
    · have hlt' : (i : Int) + 1 < n := by omega
      have HI := Lib.hid him
      clear him
      obtain ⟨b, o, ea, hb0, hc⟩ : ∃ b o, ad = some ⟨b, o, none⟩ ∧ b < W.heap.size ∧ ∀ i, i < row.length → ∀ j, j < 6 → W.cell? ⟨b, o + i * 6 + j, none⟩ = some (.int .i64 (ClM.g (at_ row i) j)) := by
        rcases H.out.2 with h | h
        · have := HN.out; rw [h] at this; simp at this; omega
        · exact h
      subst ea
      have v0 := at_vx HV.out (i := 0) (by rw [HN.out]; omega)
      obtain ⟨x0, x1, x2, x3, x4, x5, eX0⟩ := len6' v0.len
      obtain ⟨p0, p1, p2, p3, p4, p5, eR0⟩ := len6' (show (spotL (at_ row 0) w h).length = 6 from rfl)
      have CS0 : Hid (∀ X : World, Calls Try.prog 8 #[.agg #[.int .i64 x0, .int .i64 x1, .int .i64 x2, .int .i64 x3, .int .i64 x4, .int .i64 x5], .int .i64 w, .int .i64 h] X fun e w' => e = .returned (.tuple #[.agg #[.int .i64 p0, .int .i64 p1, .int .i64 p2, .int .i64 p3, .int .i64 p4, .int .i64 p5], .bool true]) ∧ Below X.heap.size X w') := fun X => by
        have := spot_any (at_ row 0) v0.len w h X
        rw [spotV_yes FR.out (vxB_of v0)] at this
        rw [eR0, eX0] at this
        exact this
      have LC0 : Hid (∀ X, Below W.heap.size W X → ∀ j, j < 6 → X.cell? ⟨b, o + 0 * 6 + j, none⟩ = some (.int .i64 (ClM.g [x0, x1, x2, x3, x4, x5] j))) := fun X hX j hj => by
        rw [← eX0]
        exact (hX.cell (p := ⟨b, o + 0 * 6 + j, none⟩) hb0).trans (hc 0 (by rw [HN.out]; omega) j hj)
      have ER0 := Lib.hid eR0
      have v1 := at_vx HV.out (i := i) (by rw [HN.out]; omega)
      obtain ⟨y0, y1, y2, y3, y4, y5, eX1⟩ := len6' v1.len
      obtain ⟨q0, q1, q2, q3, q4, q5, eR1⟩ := len6' (show (spotL (at_ row i) w h).length = 6 from rfl)
      have CS1 : Hid (∀ X : World, Calls Try.prog 8 #[.agg #[.int .i64 y0, .int .i64 y1, .int .i64 y2, .int .i64 y3, .int .i64 y4, .int .i64 y5], .int .i64 w, .int .i64 h] X fun e w' => e = .returned (.tuple #[.agg #[.int .i64 q0, .int .i64 q1, .int .i64 q2, .int .i64 q3, .int .i64 q4, .int .i64 q5], .bool true]) ∧ Below X.heap.size X w') := fun X => by
        have := spot_any (at_ row i) v1.len w h X
        rw [spotV_yes FR.out (vxB_of v1)] at this
        rw [eR1, eX1] at this
        exact this
      have LC1 : Hid (∀ X, Below W.heap.size W X → ∀ j, j < 6 → X.cell? ⟨b, o + i * 6 + j, none⟩ = some (.int .i64 (ClM.g [y0, y1, y2, y3, y4, y5] j))) := fun X hX j hj => by
        rw [← eX1]
        exact (hX.cell (p := ⟨b, o + i * 6 + j, none⟩) hb0).trans (hc i (by rw [HN.out]; omega) j hj)
      have ER1 := Lib.hid eR1
      have v2 := at_vx HV.out (i := (i + 1)) (by rw [HN.out]; omega)
      obtain ⟨z0, z1, z2, z3, z4, z5, eX2⟩ := len6' v2.len
      obtain ⟨r0, r1, r2, r3, r4, r5, eR2⟩ := len6' (show (spotL (at_ row (i + 1)) w h).length = 6 from rfl)
      have CS2 : Hid (∀ X : World, Calls Try.prog 8 #[.agg #[.int .i64 z0, .int .i64 z1, .int .i64 z2, .int .i64 z3, .int .i64 z4, .int .i64 z5], .int .i64 w, .int .i64 h] X fun e w' => e = .returned (.tuple #[.agg #[.int .i64 r0, .int .i64 r1, .int .i64 r2, .int .i64 r3, .int .i64 r4, .int .i64 r5], .bool true]) ∧ Below X.heap.size X w') := fun X => by
        have := spot_any (at_ row (i + 1)) v2.len w h X
        rw [spotV_yes FR.out (vxB_of v2)] at this
        rw [eR2, eX2] at this
        exact this
      have LC2 : Hid (∀ X, Below W.heap.size W X → ∀ j, j < 6 → X.cell? ⟨b, o + (i + 1) * 6 + j, none⟩ = some (.int .i64 (ClM.g [z0, z1, z2, z3, z4, z5] j))) := fun X hX j hj => by
        rw [← eX2]
        exact (hX.cell (p := ⟨b, o + (i + 1) * 6 + j, none⟩) hb0).trans (hc (i + 1) (by rw [HN.out]; omega) j hj)
      have ER2 := Lib.hid eR2
      have HS : Hid (trisK row w h (m + 1) = trisK row w h m ++ [[p0, p1, p2, p3, p4, p5, q0, q1, q2, q3, q4, q5, r0, r1, r2, r3, r4, r5]]) := by
        show trisK row w h (m + 1) = _
        rw [trisK_succ]
        unfold triV
        have him := HI.out
        subst him
        rw [ER0.out, ER1.out, ER2.out]
        rfl
      have hwl := trisK_len row w h m
      clear v0 v1 v2 eX0 eX1 eX2 eR0 eR1 eR2 ER0 ER1 ER2 hc
      have i1 : ((i : Int) + 1).toNat = i + 1 := by omega
      have k00 : wr.cell? ⟨b, o, none⟩ = some (.int .i64 x0) := LC0.out wr hb 0 (by omega)
      have k01 : wr.cell? ⟨b, o + 1, none⟩ = some (.int .i64 x1) := LC0.out wr hb 1 (by omega)
      have k02 : wr.cell? ⟨b, o + 2, none⟩ = some (.int .i64 x2) := LC0.out wr hb 2 (by omega)
      have k03 : wr.cell? ⟨b, o + 3, none⟩ = some (.int .i64 x3) := LC0.out wr hb 3 (by omega)
      have k04 : wr.cell? ⟨b, o + 4, none⟩ = some (.int .i64 x4) := LC0.out wr hb 4 (by omega)
      have k05 : wr.cell? ⟨b, o + 5, none⟩ = some (.int .i64 x5) := LC0.out wr hb 5 (by omega)
      go_wp2_with fail
      refine (CS0.out _).mono ?_
      rintro e wa0 ⟨rfl, hc0⟩
      have sa0 := hc0.size
      have HOa0 := Lib.hid (owns_below HO.out hc0)
      have La0 : Below W.heap.size W wa0 := by repeat' (first | (with_reducible exact Below.refl _ _) | (with_reducible refine Rd.below_step ?_ (by assumption)) | (with_reducible refine Rd.below_alloc ?_ _) | (with_reducible refine Rd.below_drewN ?_ _) | (with_reducible refine Below.drew ?_) | (with_reducible refine Below.setCell ?_ ?_ _) | (with_reducible refine Rd.below_setRow ?_ ?_ _) | go_size | (simp only [World.size_alloc]; omega) | omega)
      clear hc0 CS0 LC0 k00 k01 k02 k03 k04 k05 HO 
      go_upto_region 6 with (fail)
      refine Rd.name_world ?_
      intro wb0 hw
      have HOb0 : Hid (wb0.ownsRow W.heap.size 45 18 u7 (trisK row w h m).length (fl (trisK row w h m))) := by rw [hw]; exact HOa0.out.alloc _
      have Lb0 : Below W.heap.size W wb0 := by
        rw [hw]
        repeat' (first | (with_reducible exact Below.refl _ _) | (with_reducible refine Rd.below_step ?_ (by assumption)) | (with_reducible refine Rd.below_alloc ?_ _) | (with_reducible refine Rd.below_drewN ?_ _) | (with_reducible refine Below.drew ?_) | (with_reducible refine Below.setCell ?_ ?_ _) | (with_reducible refine Rd.below_setRow ?_ ?_ _) | go_size | (simp only [World.size_alloc]; omega) | omega)
      have bc0_0 : blk wb0 wa0.heap.size = some (.cells #[.int .i64 p0, .int .i64 p1, .int .i64 p2, .int .i64 p3, .int .i64 p4, .int .i64 p5] 33 (0, 0)) := by rw [hw]; exact blk_alloc_at _ _ _ rfl
      clear hw HOa0 La0 
      have k10 : wb0.cell? ⟨b, o + i * 6, none⟩ = some (.int .i64 y0) := LC1.out wb0 Lb0 0 (by omega)
      have k11 : wb0.cell? ⟨b, o + i * 6 + 1, none⟩ = some (.int .i64 y1) := LC1.out wb0 Lb0 1 (by omega)
      have k12 : wb0.cell? ⟨b, o + i * 6 + 2, none⟩ = some (.int .i64 y2) := LC1.out wb0 Lb0 2 (by omega)
      have k13 : wb0.cell? ⟨b, o + i * 6 + 3, none⟩ = some (.int .i64 y3) := LC1.out wb0 Lb0 3 (by omega)
      have k14 : wb0.cell? ⟨b, o + i * 6 + 4, none⟩ = some (.int .i64 y4) := LC1.out wb0 Lb0 4 (by omega)
      have k15 : wb0.cell? ⟨b, o + i * 6 + 5, none⟩ = some (.int .i64 y5) := LC1.out wb0 Lb0 5 (by omega)
      go_wp2_with fail
      refine (CS1.out _).mono ?_
      rintro e wa1 ⟨rfl, hc1⟩
      have sa1 := hc1.size
      have HOa1 := Lib.hid (owns_below HOb0.out hc1)
      have La1 : Below W.heap.size W wa1 := by repeat' (first | (with_reducible exact Below.refl _ _) | (with_reducible refine Rd.below_step ?_ (by assumption)) | (with_reducible refine Rd.below_alloc ?_ _) | (with_reducible refine Rd.below_drewN ?_ _) | (with_reducible refine Below.drew ?_) | (with_reducible refine Below.setCell ?_ ?_ _) | (with_reducible refine Rd.below_setRow ?_ ?_ _) | go_size | (simp only [World.size_alloc]; omega) | omega)
      have bb1_0 := (blk_below hc1 _ (blk_lt bc0_0)).trans bc0_0
      clear hc1 CS1 LC1 k10 k11 k12 k13 k14 k15 HOb0 Lb0
      clear bc0_0
      go_upto_region 7 with (fail)
      refine Rd.name_world ?_
      intro wb1 hw
      have HOb1 : Hid (wb1.ownsRow W.heap.size 45 18 u7 (trisK row w h m).length (fl (trisK row w h m))) := by rw [hw]; exact HOa1.out.alloc _
      have Lb1 : Below W.heap.size W wb1 := by
        rw [hw]
        repeat' (first | (with_reducible exact Below.refl _ _) | (with_reducible refine Rd.below_step ?_ (by assumption)) | (with_reducible refine Rd.below_alloc ?_ _) | (with_reducible refine Rd.below_drewN ?_ _) | (with_reducible refine Below.drew ?_) | (with_reducible refine Below.setCell ?_ ?_ _) | (with_reducible refine Rd.below_setRow ?_ ?_ _) | go_size | (simp only [World.size_alloc]; omega) | omega)
      have bc1_0 : blk wb1 wa0.heap.size = some (.cells #[.int .i64 p0, .int .i64 p1, .int .i64 p2, .int .i64 p3, .int .i64 p4, .int .i64 p5] 33 (0, 0)) := by rw [hw]; exact (blk_alloc_old _ _ _ (blk_lt bb1_0)).trans bb1_0
      have bc1_1 : blk wb1 wa1.heap.size = some (.cells #[.int .i64 q0, .int .i64 q1, .int .i64 q2, .int .i64 q3, .int .i64 q4, .int .i64 q5] 33 (0, 0)) := by rw [hw]; exact blk_alloc_at _ _ _ rfl
      clear hw HOa1 La1 bb1_0
      have k20 : wb1.cell? ⟨b, o + (i + 1) * 6, none⟩ = some (.int .i64 z0) := LC2.out wb1 Lb1 0 (by omega)
      have k21 : wb1.cell? ⟨b, o + (i + 1) * 6 + 1, none⟩ = some (.int .i64 z1) := LC2.out wb1 Lb1 1 (by omega)
      have k22 : wb1.cell? ⟨b, o + (i + 1) * 6 + 2, none⟩ = some (.int .i64 z2) := LC2.out wb1 Lb1 2 (by omega)
      have k23 : wb1.cell? ⟨b, o + (i + 1) * 6 + 3, none⟩ = some (.int .i64 z3) := LC2.out wb1 Lb1 3 (by omega)
      have k24 : wb1.cell? ⟨b, o + (i + 1) * 6 + 4, none⟩ = some (.int .i64 z4) := LC2.out wb1 Lb1 4 (by omega)
      have k25 : wb1.cell? ⟨b, o + (i + 1) * 6 + 5, none⟩ = some (.int .i64 z5) := LC2.out wb1 Lb1 5 (by omega)
      go_wp2_with fail
      refine (CS2.out _).mono ?_
      rintro e wa2 ⟨rfl, hc2⟩
      have sa2 := hc2.size
      have HOa2 := Lib.hid (owns_below HOb1.out hc2)
      have La2 : Below W.heap.size W wa2 := by repeat' (first | (with_reducible exact Below.refl _ _) | (with_reducible refine Rd.below_step ?_ (by assumption)) | (with_reducible refine Rd.below_alloc ?_ _) | (with_reducible refine Rd.below_drewN ?_ _) | (with_reducible refine Below.drew ?_) | (with_reducible refine Below.setCell ?_ ?_ _) | (with_reducible refine Rd.below_setRow ?_ ?_ _) | go_size | (simp only [World.size_alloc]; omega) | omega)
      have bb2_0 := (blk_below hc2 _ (blk_lt bc1_0)).trans bc1_0
      have bb2_1 := (blk_below hc2 _ (blk_lt bc1_1)).trans bc1_1
      clear hc2 CS2 LC2 k20 k21 k22 k23 k24 k25 HOb1 Lb1
      clear bc1_0
      clear bc1_1
      go_upto_region 8 with (fail)
      refine Rd.name_world ?_
      intro wb2 hw
      have HOb2 : Hid (wb2.ownsRow W.heap.size 45 18 u7 (trisK row w h m).length (fl (trisK row w h m))) := by rw [hw]; exact HOa2.out.alloc _
      have Lb2 : Below W.heap.size W wb2 := by
        rw [hw]
        repeat' (first | (with_reducible exact Below.refl _ _) | (with_reducible refine Rd.below_step ?_ (by assumption)) | (with_reducible refine Rd.below_alloc ?_ _) | (with_reducible refine Rd.below_drewN ?_ _) | (with_reducible refine Below.drew ?_) | (with_reducible refine Below.setCell ?_ ?_ _) | (with_reducible refine Rd.below_setRow ?_ ?_ _) | go_size | (simp only [World.size_alloc]; omega) | omega)
      have bc2_0 : blk wb2 wa0.heap.size = some (.cells #[.int .i64 p0, .int .i64 p1, .int .i64 p2, .int .i64 p3, .int .i64 p4, .int .i64 p5] 33 (0, 0)) := by rw [hw]; exact (blk_alloc_old _ _ _ (blk_lt bb2_0)).trans bb2_0
      have bc2_1 : blk wb2 wa1.heap.size = some (.cells #[.int .i64 q0, .int .i64 q1, .int .i64 q2, .int .i64 q3, .int .i64 q4, .int .i64 q5] 33 (0, 0)) := by rw [hw]; exact (blk_alloc_old _ _ _ (blk_lt bb2_1)).trans bb2_1
      have bc2_2 : blk wb2 wa2.heap.size = some (.cells #[.int .i64 r0, .int .i64 r1, .int .i64 r2, .int .i64 r3, .int .i64 r4, .int .i64 r5] 33 (0, 0)) := by rw [hw]; exact blk_alloc_at _ _ _ rfl
      clear hw HOa2 La2 bb2_0 bb2_1
      have hsz := Lb2.size
      go_wp2_with (at_builtin; refine app_tri rfl (.tmp 59) (.tmp 64) rfl W.heap.size _ _ _ rfl (HOb2.out.alloc _) wb2.heap.size 1 [p0, p1, p2, p3, p4, p5, q0, q1, q2, q3, q4, q5, r0, r1, r2, r3, r4, r5] rfl rfl (blk_alloc_at _ _ _ rfl) (by omega) (by simp; omega) ?_; intro v4 w4 ho4 hg4)
      have L4 : Below W.heap.size W w4 := (Lb2.alloc (by omega) _).grown hg4 (by simp; omega) (fun j hj => (HOb2.out.lt j hj).1)
      exact ⟨⟨i + 1, m + 1, by rw [HI.out], by omega, by go_num, Lib.hid (by rw [HS.out]; simpa using ho4), L4⟩, by simp [intOf]; omega⟩
    · obtain rfl : m = n - 2 := by omega
      have hge : ¬ (i : Int) + 1 < n := by omega
      have hib : i ≤ 1001 := by omega
      clear him
      obtain ⟨a', cap', e5, _⟩ := owns_val HO.out
      subst e5
      have hrow := Lib.hid (triAt_owns HO.out (trisK_18 row w h (n - 2))).2
      clear HO
      go_wp2
      go_ret
      exact ⟨⟨a', ⟨cap', rfl⟩, hrow.out⟩, hb⟩
end Go.Proofs.Ytimfjogallcgnaa.ScF
