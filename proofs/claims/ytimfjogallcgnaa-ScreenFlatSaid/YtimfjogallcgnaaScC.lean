/-
  A vertex's spot: the document's own answer.
-/
import Derived.Test.YtimfjogallcgnaaScB
namespace Go.Proofs.Ytimfjogallcgnaa.ScC
open Go.RowKit FixA Num Rd Go.Proofs.Ytimfjogallcgnaa.Row Mid ClM ScM ScA ScB
set_option linter.unusedVariables false
set_option linter.unusedSimpArgs false
set_option maxRecDepth 10000
attribute [local go_sem ↓] load_spot store_spot
attribute [local go_sem] one_int run_load_spot run_store_spot rowLoad_eq rowStore_eq midLoad_eq blk_alloc_at blk_alloc_old blk_drew blk_drewN blk_set_far blk_set_far' blk_grow setRow_alloc_at setRow_alloc_old setRow_drew setRow_drewN
attribute [local go_sem high] run_maxT run_minT
theorem frame_two (w h : Int) : frameB w h = (decide (1 ≤ w ∧ w ≤ 32) && decide (1 ≤ h ∧ h ≤ 32)) := by
  unfold frameB; rw [Bool.decide_and]
theorem vxB_two (v : List Int) : vxB v = ((bigB 536870912 (g v 0) && (bigB 536870912 (g v 1) && (bigB 536870912 (g v 2) && bigB 536870912 (g v 3)))) && (bigB 134217728 (g v 4) && bigB 134217728 (g v 5))) := rfl
theorem no_w {v : List Int} {w h : Int} (a : decide (1 ≤ w ∧ w ≤ 32) = false) : spotV v w h = (List.replicate 6 0, false) := spotV_no1 (by rw [frame_two, a]; rfl)
theorem no_h {v : List Int} {w h : Int} (a : decide (1 ≤ h ∧ h ≤ 32) = false) : spotV v w h = (List.replicate 6 0, false) := spotV_no1 (by rw [frame_two, a, Bool.and_false])
theorem no_u {v : List Int} {w h : Int} (a : bigB 134217728 (g v 4) = false) : spotV v w h = (List.replicate 6 0, false) := spotV_no2 (by rw [vxB_two, a]; simp)
theorem no_v {v : List Int} {w h : Int} (a : bigB 134217728 (g v 5) = false) : spotV v w h = (List.replicate 6 0, false) := spotV_no2 (by rw [vxB_two, a]; simp)
theorem no_p {v : List Int} {w h : Int} {k : Nat} (hk : k < 4) (a : bigB 536870912 (g v k) = false) : spotV v w h = (List.replicate 6 0, false) := by
  have : k = 0 ∨ k = 1 ∨ k = 2 ∨ k = 3 := by omega
  rcases this with rfl | rfl | rfl | rfl <;> exact spotV_no2 (by rw [vxB_two, a]; simp)
theorem yes_all {v : List Int} (h4 : ∀ k, k < 4 → bigB 536870912 (g v k) = true) (a : bigB 134217728 (g v 4) = true) (b : bigB 134217728 (g v 5) = true) : vxB v = true := by
  rw [vxB_two, a, b, h4 0 (by omega), h4 1 (by omega), h4 2 (by omega), h4 3 (by omega)]; rfl
theorem step4 {v : List Int} {k : Nat} (h : ∀ j, j < k → bigB 536870912 (g v j) = true) (h2 : bigB 536870912 (g v k) = true) : ∀ j, j < k + 1 → bigB 536870912 (g v j) = true := by
  intro j hj
  by_cases e : j = k
  · subst e; exact h2
  · exact h j (by omega)
set_option maxHeartbeats 2000000 in
theorem rspot_any (v : List Int) (hl : v.length = 6) (w h : Int) (W : World) :
    Calls Try.prog 9 #[.agg (cs .i64 v), .int .i64 w, .int .i64 h] W fun e w' => e = .returned (.tuple #[.agg (cs .i64 (spotV v w h).1), .bool (spotV v w h).2]) ∧ Below W.heap.size W w' := by
  obtain ⟨a0, a1, a2, a3, a4, a5, rfl⟩ := len6' hl
  obtain ⟨V, hV⟩ : ∃ V, V = [a0, a1, a2, a3, a4, a5] := ⟨_, rfl⟩
  have gE : ∀ (a0 a1 a2 a3 a4 a5 : Int), g [a0, a1, a2, a3, a4, a5] 0 = a0 ∧ g [a0, a1, a2, a3, a4, a5] 1 = a1 ∧ g [a0, a1, a2, a3, a4, a5] 2 = a2 ∧ g [a0, a1, a2, a3, a4, a5] 3 = a3 ∧ g [a0, a1, a2, a3, a4, a5] 4 = a4 ∧ g [a0, a1, a2, a3, a4, a5] 5 = a5 := fun _ _ _ _ _ _ => ⟨rfl, rfl, rfl, rfl, rfl, rfl⟩
  have g0 : g V 0 = a0 := by rw [hV]; rfl
  have g1 : g V 1 = a1 := by rw [hV]; rfl
  have g2 : g V 2 = a2 := by rw [hV]; rfl
  have g3 : g V 3 = a3 := by rw [hV]; rfl
  have g4 : g V 4 = a4 := by rw [hV]; rfl
  have g5 : g V 5 = a5 := by rw [hV]; rfl
  have hspot : spotV [a0, a1, a2, a3, a4, a5] w h = spotV V w h := by rw [hV]
  rw [hspot]
  have G := Lib.hid (And.intro g0 (And.intro g1 (And.intro g2 (And.intro g3 (And.intro g4 g5)))))
  have HV := Lib.hid hV
  clear g0 g1 g2 g3 g4 g5 hspot gE hV
  go_enter Try.func9, Try.ntmps9
  go_wp2_with fail
  refine (rwithin_any (w) (1) (32) _).mono ?_
  rintro e w1 ⟨rfl, hb1⟩
  have s1 := hb1.size
  simp only [World.size_alloc] at s1
  have bV1 : blk w1 W.heap.size = some (.cells #[.int .i64 a0, .int .i64 a1, .int .i64 a2, .int .i64 a3, .int .i64 a4, .int .i64 a5] 25 (0, 0)) := (blk_below hb1 _ (by simp; omega)).trans (blk2_0 _ _ _)
  have bS1 : blk w1 (W.heap.size + 1) = some (.cells (cs .i64 (List.replicate 6 0)) 33 (0, 0)) := (blk_below hb1 _ (by simp)).trans (blk2_1 _ _ _)
  have L1 : Below W.heap.size W w1 := by repeat' (first | (with_reducible exact Below.refl _ _) | (with_reducible refine Rd.below_step ?_ (by assumption)) | (with_reducible refine Rd.below_alloc ?_ _) | (with_reducible refine Rd.below_drewN ?_ _) | (with_reducible refine Below.drew ?_) | (with_reducible refine Below.setCell ?_ ?_ _) | (with_reducible refine Rd.below_setRow ?_ ?_ _) | go_size | (simp only [World.size_alloc]; omega) | omega)
  clear hb1
  obtain ⟨q1, e1⟩ : ∃ q, decide (1 ≤ w ∧ w ≤ 32) = q := ⟨_, rfl⟩
  rw [e1]
  have E1 := Lib.hid e1
  clear e1
  cases q1
  case false =>
    have EA := Lib.hid (no_w (v := V) (h := h) E1.out)
    go_wp2
    exact ret_spot2 rfl (W.heap.size + 1) (List.replicate 6 0) rfl rfl (blk_setRow_of bS1 _) rfl ⟨by rw [EA.out]; rfl, by repeat' (first | (with_reducible exact Below.refl _ _) | (with_reducible refine Rd.below_step ?_ (by assumption)) | (with_reducible refine Rd.below_alloc ?_ _) | (with_reducible refine Rd.below_drewN ?_ _) | (with_reducible refine Below.drew ?_) | (with_reducible refine Below.setCell ?_ ?_ _) | (with_reducible refine Rd.below_setRow ?_ ?_ _) | go_size | (simp only [World.size_alloc]; omega) | omega)⟩
  go_wp2_with fail
  refine (rwithin_any (h) (1) (32) _).mono ?_
  rintro e w2 ⟨rfl, hb2⟩
  have bV2 := (blk_below hb2 _ (blk_lt bV1)).trans bV1
  have bS2 := (blk_below hb2 _ (blk_lt bS1)).trans bS1
  have L2 : Below W.heap.size W w2 := by repeat' (first | (with_reducible exact Below.refl _ _) | (with_reducible refine Rd.below_step ?_ (by assumption)) | (with_reducible refine Rd.below_alloc ?_ _) | (with_reducible refine Rd.below_drewN ?_ _) | (with_reducible refine Below.drew ?_) | (with_reducible refine Below.setCell ?_ ?_ _) | (with_reducible refine Rd.below_setRow ?_ ?_ _) | go_size | (simp only [World.size_alloc]; omega) | omega)
  clear hb2 bV1 bS1 L1
  obtain ⟨q2, e2⟩ : ∃ q, decide (1 ≤ h ∧ h ≤ 32) = q := ⟨_, rfl⟩
  rw [e2]
  have E2 := Lib.hid e2
  clear e2
  cases q2
  case false =>
    have EA := Lib.hid (no_h (v := V) (w := w) E2.out)
    go_wp2
    exact ret_spot2 rfl (W.heap.size + 1) (List.replicate 6 0) rfl rfl (blk_setRow_of bS2 _) rfl ⟨by rw [EA.out]; rfl, by repeat' (first | (with_reducible exact Below.refl _ _) | (with_reducible refine Rd.below_step ?_ (by assumption)) | (with_reducible refine Rd.below_alloc ?_ _) | (with_reducible refine Rd.below_drewN ?_ _) | (with_reducible refine Below.drew ?_) | (with_reducible refine Below.setCell ?_ ?_ _) | (with_reducible refine Rd.below_setRow ?_ ?_ _) | go_size | (simp only [World.size_alloc]; omega) | omega)⟩
  have c4 : w2.cell? ⟨W.heap.size, 4, none⟩ = some (.int .i64 a4) := by rw [blk_cell bV2]; rfl
  go_wp2_with fail
  refine (rwithin_any (a4) (-134217728) (134217728) _).mono ?_
  rintro e w3 ⟨rfl, hb3⟩
  have bV3 := (blk_below hb3 _ (blk_lt bV2)).trans bV2
  have bS3 := (blk_below hb3 _ (blk_lt bS2)).trans bS2
  have L3 : Below W.heap.size W w3 := by repeat' (first | (with_reducible exact Below.refl _ _) | (with_reducible refine Rd.below_step ?_ (by assumption)) | (with_reducible refine Rd.below_alloc ?_ _) | (with_reducible refine Rd.below_drewN ?_ _) | (with_reducible refine Below.drew ?_) | (with_reducible refine Below.setCell ?_ ?_ _) | (with_reducible refine Rd.below_setRow ?_ ?_ _) | go_size | (simp only [World.size_alloc]; omega) | omega)
  clear hb3 bV2 bS2 L2
  obtain ⟨q3, e3⟩ : ∃ q, decide (-134217728 ≤ a4 ∧ a4 ≤ 134217728) = q := ⟨_, rfl⟩
  rw [e3]
  have E3 := Lib.hid e3
  clear e3
  cases q3
  case false =>
    have EA := Lib.hid (no_u (v := V) (w := w) (h := h) (by rw [G.out.2.2.2.2.1]; exact E3.out))
    go_wp2
    exact ret_spot2 rfl (W.heap.size + 1) (List.replicate 6 0) rfl rfl (blk_setRow_of bS3 _) rfl ⟨by rw [EA.out]; rfl, by repeat' (first | (with_reducible exact Below.refl _ _) | (with_reducible refine Rd.below_step ?_ (by assumption)) | (with_reducible refine Rd.below_alloc ?_ _) | (with_reducible refine Rd.below_drewN ?_ _) | (with_reducible refine Below.drew ?_) | (with_reducible refine Below.setCell ?_ ?_ _) | (with_reducible refine Rd.below_setRow ?_ ?_ _) | go_size | (simp only [World.size_alloc]; omega) | omega)⟩
  have c5 : w3.cell? ⟨W.heap.size, 5, none⟩ = some (.int .i64 a5) := by rw [blk_cell bV3]; rfl
  go_wp2_with fail
  refine (rwithin_any (a5) (-134217728) (134217728) _).mono ?_
  rintro e w4 ⟨rfl, hb4⟩
  have bV4 := (blk_below hb4 _ (blk_lt bV3)).trans bV3
  have bS4 := (blk_below hb4 _ (blk_lt bS3)).trans bS3
  have L4 : Below W.heap.size W w4 := by repeat' (first | (with_reducible exact Below.refl _ _) | (with_reducible refine Rd.below_step ?_ (by assumption)) | (with_reducible refine Rd.below_alloc ?_ _) | (with_reducible refine Rd.below_drewN ?_ _) | (with_reducible refine Below.drew ?_) | (with_reducible refine Below.setCell ?_ ?_ _) | (with_reducible refine Rd.below_setRow ?_ ?_ _) | go_size | (simp only [World.size_alloc]; omega) | omega)
  clear hb4 bV3 bS3 L3
  obtain ⟨q4, e4⟩ : ∃ q, decide (-134217728 ≤ a5 ∧ a5 ≤ 134217728) = q := ⟨_, rfl⟩
  rw [e4]
  have E4 := Lib.hid e4
  clear e4
  cases q4
  case false =>
    have EA := Lib.hid (no_v (v := V) (w := w) (h := h) (by rw [G.out.2.2.2.2.2]; exact E4.out))
    go_wp2
    exact ret_spot2 rfl (W.heap.size + 1) (List.replicate 6 0) rfl rfl (blk_setRow_of bS4 _) rfl ⟨by rw [EA.out]; rfl, by repeat' (first | (with_reducible exact Below.refl _ _) | (with_reducible refine Rd.below_step ?_ (by assumption)) | (with_reducible refine Rd.below_alloc ?_ _) | (with_reducible refine Rd.below_drewN ?_ _) | (with_reducible refine Below.drew ?_) | (with_reducible refine Below.setCell ?_ ?_ _) | (with_reducible refine Rd.below_setRow ?_ ?_ _) | go_size | (simp only [World.size_alloc]; omega) | omega)⟩
  clear c4 c5
  have FR := Lib.hid (show frameB w h = true by rw [frame_two, E1.out, E2.out]; rfl)
  go_wp2_with fail
  go_loopw [8] (fun i wr => ∃ k : Nat, k ≤ 4 ∧ i = .int .i64 k ∧ Hid (∀ j, j < k → bigB 536870912 (g V j) = true) ∧ Hid (blk wr W.heap.size = some (.cells #[.int .i64 a0, .int .i64 a1, .int .i64 a2, .int .i64 a3, .int .i64 a4, .int .i64 a5] 25 (0, 0)) ∧ blk wr (W.heap.size + 1) = some (.cells (cs .i64 (List.replicate 6 0)) 33 (0, 0))) ∧ Below W.heap.size W wr) (fun i _ => 4 - (intOf i).toNat)
  case atStart => exact ⟨0, by omega, rfl, Lib.hid (fun j hj => absurd hj (by omega)), Lib.hid ⟨bV4, bS4⟩, L4⟩
  case round =>
    obtain ⟨k, hk, rfl, HT, HB, hb⟩ := hrel
    by_cases hlt : k < 4
    · have hlt' : (k : Int) < 4 := by omega
      obtain ⟨x, ex⟩ : ∃ x, g V k = x := ⟨_, rfl⟩
      have c0 : wr.cell? ⟨W.heap.size, k, none⟩ = some (.int .i64 x) := by
        rw [blk_cell HB.out.1, ← ex, HV.out]
        have : k = 0 ∨ k = 1 ∨ k = 2 ∨ k = 3 := by omega
        rcases this with rfl | rfl | rfl | rfl <;> rfl
      have EX := Lib.hid ex
      clear ex bV4 bS4 L4
      go_wp2_with fail
      refine (rwithin_any x (-536870912) 536870912 _).mono ?_
      rintro e w5 ⟨rfl, hb5⟩
      have bV5 := (blk_below hb5 _ (blk_lt HB.out.1)).trans HB.out.1
      have bS5 := (blk_below hb5 _ (blk_lt HB.out.2)).trans HB.out.2
      have L5 : Below W.heap.size W w5 := by repeat' (first | (with_reducible exact Below.refl _ _) | (with_reducible refine Rd.below_step ?_ (by assumption)) | (with_reducible refine Rd.below_alloc ?_ _) | (with_reducible refine Rd.below_drewN ?_ _) | (with_reducible refine Below.drew ?_) | (with_reducible refine Below.setCell ?_ ?_ _) | (with_reducible refine Rd.below_setRow ?_ ?_ _) | go_size | (simp only [World.size_alloc]; omega) | omega)
      clear hb5 HB c0
      obtain ⟨q5, e5⟩ : ∃ q, decide (-536870912 ≤ x ∧ x ≤ 536870912) = q := ⟨_, rfl⟩
      rw [e5]
      have E5 := Lib.hid e5
      clear e5
      cases q5
      case false =>
        have EA := Lib.hid (no_p (v := V) (w := w) (h := h) hlt (by rw [EX.out]; exact E5.out))
        go_wp2
        exact ret_spot2 rfl (W.heap.size + 1) (List.replicate 6 0) rfl rfl (blk_setRow_of bS5 _) rfl ⟨by rw [EA.out]; rfl, by repeat' (first | (with_reducible exact Below.refl _ _) | (with_reducible refine Rd.below_step ?_ (by assumption)) | (with_reducible refine Rd.below_alloc ?_ _) | (with_reducible refine Rd.below_drewN ?_ _) | (with_reducible refine Below.drew ?_) | (with_reducible refine Below.setCell ?_ ?_ _) | (with_reducible refine Rd.below_setRow ?_ ?_ _) | go_size | (simp only [World.size_alloc]; omega) | omega)⟩
      have H1 := Lib.hid (step4 HT.out (by rw [EX.out]; exact E5.out))
      have HB5 := Lib.hid (And.intro bV5 bS5)
      clear bV5 bS5
      go_wp2
      go_roundw
      case rel => exact ⟨k + 1, by omega, by go_num, H1, HB5, L5⟩
      case measure => simp [intOf]; omega
    · obtain rfl : k = 4 := by omega
      have hvb : vxB V = true := yes_all HT.out (by rw [G.out.2.2.2.2.1]; exact E3.out) (by rw [G.out.2.2.2.2.2]; exact E4.out)
      have EA := Lib.hid (spotV_yes (v := V) FR.out hvb)
      have VX := Lib.hid (vx_of (by rw [HV.out]; rfl) hvb)
      clear hvb bV4 bS4 L4
      obtain ⟨bV6, bS6⟩ := HB.out
      have c3 : wr.cell? ⟨W.heap.size, 3, none⟩ = some (.int .i64 a3) := by rw [blk_cell bV6]; rfl
      go_upto_region 9 with (fail)
      obtain ⟨dd, ed⟩ : ∃ dd, max a3 256 = dd := ⟨_, rfl⟩
      rw [ed]
      have hw1 : a3 ≤ 536870912 := by rw [← G.out.2.2.2.1]; exact VX.out.w1
      have hd0 : 256 ≤ dd := by omega
      have hd1 : dd ≤ 536870912 := by omega
      have ED := Lib.hid (show dV V = dd by unfold dV; rw [G.out.2.2.2.1]; exact ed)
      clear ed hw1
      clear c3 HB
      have fr := frame_yes FR.out
      obtain ⟨h0, eh0⟩ : ∃ x, held a0 dd = x := ⟨_, rfl⟩
      have hb0 : -dd ≤ h0 ∧ h0 ≤ dd := by have := held_bd (n := a0) (d := dd) (by omega); omega
      have EH0 := Lib.hid eh0
      have CH0 : Hid (∀ X : World, Calls Try.prog 20 #[.int .i64 a0, .int .i64 (-dd), .int .i64 dd] X fun e w' => e = .returned (.int .i64 h0) ∧ Below X.heap.size X w') := fun X => by
        have := rhold_any a0 dd X (by omega)
        rwa [EH0.out] at this
      clear eh0
      have gV0 := Go.cell_regrown (w := wr) (a := ⟨W.heap.size, 0, none⟩) (v := .int .i64 a0) (by rw [blk_cell bV6]; rfl)
      obtain ⟨h1, eh1⟩ : ∃ x, held a1 dd = x := ⟨_, rfl⟩
      have hb1 : -dd ≤ h1 ∧ h1 ≤ dd := by have := held_bd (n := a1) (d := dd) (by omega); omega
      have EH1 := Lib.hid eh1
      have CH1 : Hid (∀ X : World, Calls Try.prog 20 #[.int .i64 a1, .int .i64 (-dd), .int .i64 dd] X fun e w' => e = .returned (.int .i64 h1) ∧ Below X.heap.size X w') := fun X => by
        have := rhold_any a1 dd X (by omega)
        rwa [EH1.out] at this
      clear eh1
      have gV1 := Go.cell_regrown (w := wr) (a := ⟨W.heap.size, 1, none⟩) (v := .int .i64 a1) (by rw [blk_cell bV6]; rfl)
      obtain ⟨h2, eh2⟩ : ∃ x, held a2 dd = x := ⟨_, rfl⟩
      have hb2 : -dd ≤ h2 ∧ h2 ≤ dd := by have := held_bd (n := a2) (d := dd) (by omega); omega
      have EH2 := Lib.hid eh2
      have CH2 : Hid (∀ X : World, Calls Try.prog 20 #[.int .i64 a2, .int .i64 (-dd), .int .i64 dd] X fun e w' => e = .returned (.int .i64 h2) ∧ Below X.heap.size X w') := fun X => by
        have := rhold_any a2 dd X (by omega)
        rwa [EH2.out] at this
      clear eh2
      have gV2 := Go.cell_regrown (w := wr) (a := ⟨W.heap.size, 2, none⟩) (v := .int .i64 a2) (by rw [blk_cell bV6]; rfl)
      (refine wp_region_quiet_below (by kernel_rfl) (by kernel_rfl) ?_; (repeat (go_big_quiet_step ((first | (with_reducible exact Calls.regrown_of (CH0.out _)) | (with_reducible exact Calls.regrown_of (CH1.out _)) | (with_reducible exact Calls.regrown_of (CH2.out _)))))); refine wpQuiet_nil ?_)
      intro w7 hU
      have KU := Rd.below_of_regrown hU
      clear hU CH0 CH1 CH2 gV0 gV1 gV2
      have bV7 := (blk_below KU _ (blk_lt bV6)).trans bV6
      have bS7 := (blk_below KU _ (blk_lt bS6)).trans bS6
      have L7 : Below W.heap.size W w7 := by repeat' (first | (with_reducible exact Below.refl _ _) | (with_reducible refine Rd.below_step ?_ (by assumption)) | (with_reducible refine Rd.below_alloc ?_ _) | (with_reducible refine Rd.below_drewN ?_ _) | (with_reducible refine Below.drew ?_) | (with_reducible refine Below.setCell ?_ ?_ _) | (with_reducible refine Rd.below_setRow ?_ ?_ _) | go_size | (simp only [World.size_alloc]; omega) | omega)
      clear KU bV6 bS6 hb
      obtain ⟨r0, er0⟩ : ∃ x, near ((dd + h0) * w * 128) dd = x := ⟨_, rfl⟩
      have p0 := Mid.prod_bd (a := dd + h0) (b := w) (A := 1073741824) (B := 32) (by omega) (by omega) (by omega) (by omega)
      have ER0 := Lib.hid er0
      have CR0 : Hid (∀ X : World, Calls Try.prog 21 #[.int .i64 ((dd + h0) * w * 128), .int .i64 dd] X fun e w' => e = .returned (.int .i64 r0) ∧ Below X.heap.size X w') := fun X => by
        refine (rnear_any ((dd + h0) * w * 128) dd X (by omega) (by omega) (by omega) (by omega)).mono ?_
        rintro e w' ⟨rfl, rfl⟩
        exact ⟨by rw [ER0.out], Below.refl _ _⟩
      clear er0
      obtain ⟨r1, er1⟩ : ∃ x, near ((dd - h1) * h * 128) dd = x := ⟨_, rfl⟩
      have p1 := Mid.prod_bd (a := dd - h1) (b := h) (A := 1073741824) (B := 32) (by omega) (by omega) (by omega) (by omega)
      have ER1 := Lib.hid er1
      have CR1 : Hid (∀ X : World, Calls Try.prog 21 #[.int .i64 ((dd - h1) * h * 128), .int .i64 dd] X fun e w' => e = .returned (.int .i64 r1) ∧ Below X.heap.size X w') := fun X => by
        refine (rnear_any ((dd - h1) * h * 128) dd X (by omega) (by omega) (by omega) (by omega)).mono ?_
        rintro e w' ⟨rfl, rfl⟩
        exact ⟨by rw [ER1.out], Below.refl _ _⟩
      clear er1
      obtain ⟨r2, er2⟩ : ∃ x, near ((dd + h2) * 32767) dd = x := ⟨_, rfl⟩
      have ER2 := Lib.hid er2
      have CR2 : Hid (∀ X : World, Calls Try.prog 21 #[.int .i64 ((dd + h2) * 32767), .int .i64 dd] X fun e w' => e = .returned (.int .i64 r2) ∧ Below X.heap.size X w') := fun X => by
        refine (rnear_any ((dd + h2) * 32767) dd X (by omega) (by omega) (by omega) (by omega)).mono ?_
        rintro e w' ⟨rfl, rfl⟩
        exact ⟨by rw [ER2.out], Below.refl _ _⟩
      clear er2
      have gV4 := Go.cell_regrown (w := w7) (a := ⟨W.heap.size, 4, none⟩) (v := .int .i64 a4) (by rw [blk_cell bV7]; rfl)
      have gV5 := Go.cell_regrown (w := w7) (a := ⟨W.heap.size, 5, none⟩) (v := .int .i64 a5) (by rw [blk_cell bV7]; rfl)
      go_upto_region 10 with (fail)
      (refine Reg.below_tail 28 (by kernel_rfl) (by kernel_rfl) ?_; simp only [List.take_succ_cons, List.take_zero, List.drop_succ_cons, List.drop_zero]; (repeat (go_big_quiet_step ((first | (with_reducible exact Calls.regrown_of (CR0.out _)) | (with_reducible exact Calls.regrown_of (CR1.out _)) | (with_reducible exact Calls.regrown_of (CR2.out _)))))); refine wpQuiet_nil ?_)
      intro w8 hU
      have KU := Rd.below_of_regrown hU
      clear hU CR0 CR1 CR2 gV4 gV5
      have bS8 := (blk_below KU _ (blk_lt bS7)).trans bS7
      have L8 : Below W.heap.size W w8 := by repeat' (first | (with_reducible exact Below.refl _ _) | (with_reducible refine Rd.below_step ?_ (by assumption)) | (with_reducible refine Rd.below_alloc ?_ _) | (with_reducible refine Rd.below_drewN ?_ _) | (with_reducible refine Below.drew ?_) | (with_reducible refine Below.setCell ?_ ?_ _) | (with_reducible refine Rd.below_setRow ?_ ?_ _) | go_size | (simp only [World.size_alloc]; omega) | omega)
      clear KU bV7 bS7 L7
      have EL : spotL V w h = [r0, r1, r2, dd, a4, a5] := by
        unfold spotL nX nY nZ
        rw [ED.out, G.out.1, G.out.2.1, G.out.2.2.1, G.out.2.2.2.2.1, G.out.2.2.2.2.2, EH0.out, EH1.out, EH2.out, ER0.out, ER1.out, ER2.out]
      have EE := Lib.hid EL
      clear EL
      go_wp2
      exact ret_spot2 rfl (W.heap.size + 1) [r0, r1, r2, dd, a4, a5] rfl rfl (blk_setRow_of bS8 _) rfl ⟨by rw [EA.out, EE.out]; rfl, by repeat' (first | (with_reducible exact Below.refl _ _) | (with_reducible refine Rd.below_step ?_ (by assumption)) | (with_reducible refine Rd.below_alloc ?_ _) | (with_reducible refine Rd.below_drewN ?_ _) | (with_reducible refine Below.drew ?_) | (with_reducible refine Below.setCell ?_ ?_ _) | (with_reducible refine Rd.below_setRow ?_ ?_ _) | go_size | (simp only [World.size_alloc]; omega) | omega)⟩
end Go.Proofs.Ytimfjogallcgnaa.ScC
