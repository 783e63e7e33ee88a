/-
  A vertex's spot: the program's answer.
-/
import Derived.Test.YtimfjogallcgnaaScA
import Derived.Test.YtimfjogallcgnaaClD
import Derived.BigGuard
import Derived.BigQuiet
namespace Go.Proofs.Ytimfjogallcgnaa.ScB
open Go.RowKit FixA Num Rd Go.Proofs.Ytimfjogallcgnaa.Row Mid ClM ScM ScA
set_option linter.unusedVariables false
set_option linter.unusedSimpArgs false
set_option maxRecDepth 10000
theorem load_spot (x : Value) : Instr.loadAt 33 x = loadRow 33 x := rfl
theorem store_spot (x v : Value) : Instr.storeAt 33 x v = storeRow 33 x v := rfl
theorem run_load_spot (g o : Nat) (W : World) : (loadRow 33 (.pointer (some ⟨g, o, none⟩))).run Try.prog W = midLoad Try.prog 33 6 g o W := run_loadMid Try.underlying33 rfl (by kernel_rfl) g o W
theorem run_store_spot (g o : Nat) (c : Array Value) (W : World) : (storeRow 33 (.pointer (some ⟨g, o, none⟩)) (.agg c)).run Try.prog W = rowStore Try.prog 33 6 g o c W := run_storeRow (by kernel_rfl) g o c W
theorem info_spot : (Try.prog.info? 33).map (·.size) = some 6 := by kernel_rfl
theorem ret_spot2 {fn : Func} {R : Ending → World → Prop} {a : Act} {W : World} {p q : Tmp} (h : fn.results = #[.cell p 33, .tmp q]) (g : Nat) (l : List Int) (hp : a.tmps.getD p undef = .pointer (some ⟨g, 0, none⟩)) (hl : l.length = 6)
    (hg : blk W g = some (.cells (cs .i64 l) 33 (0, 0))) (hd : a.defers = []) (hR : R (.returned (.tuple #[.agg (cs .i64 l), a.tmps.getD q undef])) W) : bodyPost Try.prog fn R .ret a W :=
  bodyPost_ret (results_row2 h _ _ g _ _ _ _ hp hg Try.underlying33 rfl (by rw [info_spot]; simp [hl])) hd hR
theorem reads_blk {W : World} {g : Nat} {C : Array Value} {t : TypeId} {fr : Nat × Nat} (h : blk W g = some (.cells C t fr)) (o : Nat) (zs : List Int) (n : Nat) (hn : zs.length = n) (hz : ∀ i (hi : i < zs.length), C[o + i]? = some (.int .i64 zs[i])) :
    Reads W 1 (some ⟨g, o, none⟩) n (zs.map (Value.int .i64)) := by
  subst hn
  refine ⟨by simp, Or.inr ⟨g, o, rfl, blk_lt h, fun i hi => ?_⟩⟩
  rw [List.length_map] at hi
  rw [blk_cell h, hz i hi]
  simp [hi]
attribute [local go_sem ↓] load_spot store_spot
attribute [local go_sem] one_int run_load_spot run_store_spot rowLoad_eq rowStore_eq midLoad_eq blk_alloc_at blk_alloc_old blk_drew blk_drewN blk_set_far blk_set_far' blk_grow setRow_alloc_at setRow_alloc_old setRow_drew setRow_drewN
attribute [local go_sem high] run_maxT run_minT

theorem big4 (a0 a1 a2 a3 a4 a5 : Int) : vxB [a0, a1, a2, a3, a4, a5] = ([a0, a1, a2, a3].all (bigB 536870912) && [a4, a5].all (bigB 134217728)) := by
  have e : vxB [a0, a1, a2, a3, a4, a5] = ((bigB 536870912 a0 && (bigB 536870912 a1 && (bigB 536870912 a2 && bigB 536870912 a3))) && (bigB 134217728 a4 && bigB 134217728 a5)) := rfl
  rw [e]
  simp only [List.all_cons, List.all_nil, Bool.and_true]
set_option maxHeartbeats 2000000 in
theorem spot_any (v : List Int) (hl : v.length = 6) (w h : Int) (W : World) :
    Calls Try.prog 8 #[.agg (cs .i64 v), .int .i64 w, .int .i64 h] W fun e w' => e = .returned (.tuple #[.agg (cs .i64 (spotV v w h).1), .bool (spotV v w h).2]) ∧ Below W.heap.size W w' := by
  obtain ⟨a0, a1, a2, a3, a4, a5, rfl⟩ := len6' hl
  have hmf : ∀ (fn : Fn) (first cap : Array Value) (w : World), (Instr.makeFunc fn first cap).run Try.prog w = .ok (.func fn first cap) w := fun _ _ _ _ => rfl
  go_enter Try.func8, Try.ntmps8
  go_wp2_with fail
  refine (isFrame_any w h _).mono ?_
  rintro e w1 ⟨rfl, hb1⟩
  have s1 := hb1.size
  simp only [World.size_alloc] at s1
  have bV1 : blk w1 W.heap.size = some (.cells #[.int .i64 a0, .int .i64 a1, .int .i64 a2, .int .i64 a3, .int .i64 a4, .int .i64 a5] 25 (0, 0)) := (blk_below hb1 _ (by simp; omega)).trans (blk2_0 _ _ _)
  have bS1 : blk w1 (W.heap.size + 1) = some (.cells (cs .i64 (List.replicate 6 0)) 33 (0, 0)) := (blk_below hb1 _ (by simp)).trans (blk2_1 _ _ _)
  have L1 : Below W.heap.size W w1 := by repeat' (first | (with_reducible exact Below.refl _ _) | (with_reducible refine Rd.below_step ?_ (by assumption)) | (with_reducible refine Rd.below_alloc ?_ _) | (with_reducible refine Rd.below_drewN ?_ _) | (with_reducible refine Below.drew ?_) | (with_reducible refine Below.setCell ?_ ?_ _) | (with_reducible refine Rd.below_setRow ?_ ?_ _) | go_size | (simp only [World.size_alloc]; omega) | omega)
  clear hb1
  by_cases hf : frameB w h = true
  case neg =>
    have hf' : frameB w h = false := by simpa using hf
    have EA := Lib.hid (spotV_no1 (v := [a0, a1, a2, a3, a4, a5]) hf')
    clear hf
    go_wp2
    exact ret_spot2 rfl (W.heap.size + 1) (List.replicate 6 0) rfl rfl (blk_setRow_of bS1 _) rfl ⟨by rw [EA.out]; rfl, by repeat' (first | (with_reducible exact Below.refl _ _) | (with_reducible refine Rd.below_step ?_ (by assumption)) | (with_reducible refine Rd.below_alloc ?_ _) | (with_reducible refine Rd.below_drewN ?_ _) | (with_reducible refine Below.drew ?_) | (with_reducible refine Below.setCell ?_ ?_ _) | (with_reducible refine Rd.below_setRow ?_ ?_ _) | go_size | (simp only [World.size_alloc]; omega) | omega)⟩
  have FR := Lib.hid hf
  go_wp2_with fail
  have hr1 : Reads w1 1 (some ⟨W.heap.size, 0, none⟩) 4 ([a0, a1, a2, a3].map (Value.int .i64)) := reads_blk bV1 0 _ 4 rfl (fun i hi => by
    have : i = 0 ∨ i = 1 ∨ i = 2 ∨ i = 3 := by simp at hi; omega
    rcases this with rfl | rfl | rfl | rfl <;> rfl)
  refine (within_any 536870912 (by omega) (by omega) [a0, a1, a2, a3] _ 4 _ _ hr1 (by omega)).mono ?_
  rintro e w2 ⟨rfl, hb2⟩
  have s2 := hb2.size
  have bV2 := (blk_below hb2 _ (blk_lt bV1)).trans bV1
  have bS2 := (blk_below hb2 _ (blk_lt bS1)).trans bS1
  have L2 : Below W.heap.size W w2 := by repeat' (first | (with_reducible exact Below.refl _ _) | (with_reducible refine Rd.below_step ?_ (by assumption)) | (with_reducible refine Rd.below_alloc ?_ _) | (with_reducible refine Rd.below_drewN ?_ _) | (with_reducible refine Below.drew ?_) | (with_reducible refine Below.setCell ?_ ?_ _) | (with_reducible refine Rd.below_setRow ?_ ?_ _) | go_size | (simp only [World.size_alloc]; omega) | omega)
  clear hb2 bV1 bS1 hr1
  obtain ⟨q4, e4⟩ : ∃ q, [a0, a1, a2, a3].all (bigB 536870912) = q := ⟨_, rfl⟩
  rw [e4]
  have E4 := Lib.hid e4
  clear e4 hf
  cases q4
  case false =>
    have EA := Lib.hid (spotV_no2 (v := [a0, a1, a2, a3, a4, a5]) (w := w) (h := h) (by rw [big4, E4.out]; rfl))
    go_wp2
    exact ret_spot2 rfl (W.heap.size + 1) (List.replicate 6 0) rfl rfl (blk_setRow_of bS2 _) rfl ⟨by rw [EA.out]; rfl, by repeat' (first | (with_reducible exact Below.refl _ _) | (with_reducible refine Rd.below_step ?_ (by assumption)) | (with_reducible refine Rd.below_alloc ?_ _) | (with_reducible refine Rd.below_drewN ?_ _) | (with_reducible refine Below.drew ?_) | (with_reducible refine Below.setCell ?_ ?_ _) | (with_reducible refine Rd.below_setRow ?_ ?_ _) | go_size | (simp only [World.size_alloc]; omega) | omega)⟩
  have c4 : w2.cell? ⟨W.heap.size, 4, none⟩ = some (.int .i64 a4) := by rw [blk_cell bV2]; rfl
  have c5 : w2.cell? ⟨W.heap.size, 5, none⟩ = some (.int .i64 a5) := by rw [blk_cell bV2]; rfl
  go_wp2_with fail
  have hr2 : Reads (w2.alloc (.cells #[.int .i64 a4, .int .i64 a5] 3)) 1 (some ⟨w2.heap.size, 0, none⟩) 2 ([a4, a5].map (Value.int .i64)) := reads_blk (blk_alloc_at _ _ _ rfl) 0 _ 2 rfl (fun i hi => by
    have : i = 0 ∨ i = 1 := by simp at hi; omega
    rcases this with rfl | rfl <;> rfl)
  refine (within_any 134217728 (by omega) (by omega) [a4, a5] _ 2 _ _ hr2 (by omega)).mono ?_
  rintro e w3 ⟨rfl, hb3⟩
  have s3 := hb3.size
  simp only [World.size_alloc] at s3
  have bV3 := (blk_below hb3 _ (by simp; have := blk_lt bV2; omega)).trans ((blk_alloc_old _ _ _ (blk_lt bV2)).trans bV2)
  have bS3 := (blk_below hb3 _ (by simp; have := blk_lt bS2; omega)).trans ((blk_alloc_old _ _ _ (blk_lt bS2)).trans bS2)
  have L3 : Below W.heap.size W w3 := by repeat' (first | (with_reducible exact Below.refl _ _) | (with_reducible refine Rd.below_step ?_ (by assumption)) | (with_reducible refine Rd.below_alloc ?_ _) | (with_reducible refine Rd.below_drewN ?_ _) | (with_reducible refine Below.drew ?_) | (with_reducible refine Below.setCell ?_ ?_ _) | (with_reducible refine Rd.below_setRow ?_ ?_ _) | go_size | (simp only [World.size_alloc]; omega) | omega)
  clear hb3 bV2 bS2 hr2 c4 c5
  obtain ⟨q2, e2⟩ : ∃ q, [a4, a5].all (bigB 134217728) = q := ⟨_, rfl⟩
  rw [e2]
  have E2 := Lib.hid e2
  clear e2
  cases q2
  case false =>
    have EA := Lib.hid (spotV_no2 (v := [a0, a1, a2, a3, a4, a5]) (w := w) (h := h) (by rw [big4, E4.out, E2.out]; rfl))
    go_wp2
    exact ret_spot2 rfl (W.heap.size + 1) (List.replicate 6 0) rfl rfl (blk_setRow_of bS3 _) rfl ⟨by rw [EA.out]; rfl, by repeat' (first | (with_reducible exact Below.refl _ _) | (with_reducible refine Rd.below_step ?_ (by assumption)) | (with_reducible refine Rd.below_alloc ?_ _) | (with_reducible refine Rd.below_drewN ?_ _) | (with_reducible refine Below.drew ?_) | (with_reducible refine Below.setCell ?_ ?_ _) | (with_reducible refine Rd.below_setRow ?_ ?_ _) | go_size | (simp only [World.size_alloc]; omega) | omega)⟩
  have hvb : vxB [a0, a1, a2, a3, a4, a5] = true := by rw [big4, E4.out, E2.out]; rfl
  have EA := Lib.hid (spotV_yes (v := [a0, a1, a2, a3, a4, a5]) FR.out hvb)
  have VX := Lib.hid (vx_of rfl hvb)
  clear hvb
  have c3 : w3.cell? ⟨W.heap.size, 3, none⟩ = some (.int .i64 a3) := by rw [blk_cell bV3]; rfl
  go_upto_region 4 with (fail)
  refine Rd.name_world ?_
  intro w4 hw
  obtain ⟨dd, ed⟩ : ∃ dd, max a3 256 = dd := ⟨_, rfl⟩
  rw [ed] at hw
  have hw1 : a3 ≤ 536870912 := VX.out.w1
  have hd0 : 256 ≤ dd := by omega
  have hd1 : dd ≤ 536870912 := by omega
  have ED := Lib.hid (show dV [a0, a1, a2, a3, a4, a5] = dd from ed)
  clear ed hw1
  have fr := frame_yes FR.out
  have bN4 : blk w4 w3.heap.size = some (.cells #[.int .i64 dd] 3 (0, 0)) := by rw [hw]; exact blk_alloc_at _ _ _ rfl
  have bV4 : blk w4 W.heap.size = some (.cells #[.int .i64 a0, .int .i64 a1, .int .i64 a2, .int .i64 a3, .int .i64 a4, .int .i64 a5] 25 (0, 0)) := by rw [hw]; exact (blk_alloc_old _ _ _ (blk_lt bV3)).trans bV3
  have bS4 : blk w4 (W.heap.size + 1) = some (.cells (cs .i64 (List.replicate 6 0)) 33 (0, 0)) := by rw [hw]; exact (blk_alloc_old _ _ _ (blk_lt bS3)).trans bS3
  have L4 : Below W.heap.size W w4 := by
    rw [hw]
    repeat' (first | (with_reducible exact Below.refl _ _) | (with_reducible refine Rd.below_step ?_ (by assumption)) | (with_reducible refine Rd.below_alloc ?_ _) | (with_reducible refine Rd.below_drewN ?_ _) | (with_reducible refine Below.drew ?_) | (with_reducible refine Below.setCell ?_ ?_ _) | (with_reducible refine Rd.below_setRow ?_ ?_ _) | go_size | (simp only [World.size_alloc]; omega) | omega)
  clear hw bV3 bS3 c3 L3
  -- number 0
  obtain ⟨h0, eh0⟩ : ∃ x, held a0 dd = x := ⟨_, rfl⟩
  have hb0 : -dd ≤ h0 ∧ h0 ≤ dd := by have := held_bd (n := a0) (d := dd) (by omega); omega
  obtain ⟨r0, er0⟩ : ∃ x, near ((dd + h0) * w * 128) dd = x := ⟨_, rfl⟩
  have p0 := Mid.prod_bd (a := dd + h0) (b := w) (A := 1073741824) (B := 32) (by omega) (by omega) (by omega) (by omega)
  have EH0 := Lib.hid eh0
  have ER0 := Lib.hid er0
  have CH0 : Hid (∀ (d : Nat) (os : Array Obj), Calls Try.prog 17 #[.int .i64 a0, .pointer (some ⟨w3.heap.size, 0, none⟩)] (Sort.grow (redrawn w4 d) os) fun e w' => e = .returned (.int .i64 h0) ∧ Below (Sort.grow (redrawn w4 d) os).heap.size (Sort.grow (redrawn w4 d) os) w') := fun d os => by
    have := held_any a0 dd w3.heap.size (Sort.grow (redrawn w4 d) os) (Go.cell_regrown (by rw [blk_cell bN4]; rfl) d os) (by omega) (by omega)
    rwa [EH0.out] at this
  have CR0 : Hid (∀ X : World, Calls Try.prog 18 #[.int .i64 ((dd + h0) * w * 128), .int .i64 dd] X fun e w' => e = .returned (.tuple #[.int .i64 r0, .int .i64 0]) ∧ Below X.heap.size X w') := fun X => by
    have := round_mid ((dd + h0) * w * 128) dd X (by omega) (by omega) (by omega) (by omega)
    rwa [ER0.out] at this
  clear eh0 er0
  go_upto_region 5 with (fail)
  have gN0 := Go.cell_regrown (w := w4) (a := ⟨w3.heap.size, 0, none⟩) (v := .int .i64 dd) (by rw [blk_cell bN4]; rfl)
  have gV0 := Go.cell_regrown (w := w4) (a := ⟨W.heap.size, 0, none⟩) (v := .int .i64 a0) (by rw [blk_cell bV4]; rfl)
  (refine wp_region_quiet_below (by kernel_rfl) (by kernel_rfl) ?_; (repeat (go_big_quiet_step ((first | (with_reducible exact Calls.regrown_of (CH0.out _ _)) | (with_reducible exact Calls.regrown_of (CR0.out _)))))); refine wpQuiet_nil ?_)
  intro w5 hU
  have KU := Rd.below_of_regrown hU
  clear hU CH0 CR0 gN0 gV0
  have bN5 := (blk_below KU _ (blk_lt bN4)).trans bN4
  have bV5 := (blk_below KU _ (blk_lt bV4)).trans bV4
  have bS5 := (blk_below KU _ (blk_lt bS4)).trans bS4
  have L5 : Below W.heap.size W w5 := by repeat' (first | (with_reducible exact Below.refl _ _) | (with_reducible refine Rd.below_step ?_ (by assumption)) | (with_reducible refine Rd.below_alloc ?_ _) | (with_reducible refine Rd.below_drewN ?_ _) | (with_reducible refine Below.drew ?_) | (with_reducible refine Below.setCell ?_ ?_ _) | (with_reducible refine Rd.below_setRow ?_ ?_ _) | go_size | (simp only [World.size_alloc]; omega) | omega)
  clear KU bN4 bV4 bS4 L4
  -- number 1
  obtain ⟨h1, eh1⟩ : ∃ x, held a1 dd = x := ⟨_, rfl⟩
  have hb1 : -dd ≤ h1 ∧ h1 ≤ dd := by have := held_bd (n := a1) (d := dd) (by omega); omega
  obtain ⟨r1, er1⟩ : ∃ x, near ((dd - h1) * h * 128) dd = x := ⟨_, rfl⟩
  have p1 := Mid.prod_bd (a := dd - h1) (b := h) (A := 1073741824) (B := 32) (by omega) (by omega) (by omega) (by omega)
  have EH1 := Lib.hid eh1
  have ER1 := Lib.hid er1
  have CH1 : Hid (∀ (d : Nat) (os : Array Obj), Calls Try.prog 17 #[.int .i64 a1, .pointer (some ⟨w3.heap.size, 0, none⟩)] (Sort.grow (redrawn w5 d) os) fun e w' => e = .returned (.int .i64 h1) ∧ Below (Sort.grow (redrawn w5 d) os).heap.size (Sort.grow (redrawn w5 d) os) w') := fun d os => by
    have := held_any a1 dd w3.heap.size (Sort.grow (redrawn w5 d) os) (Go.cell_regrown (by rw [blk_cell bN5]; rfl) d os) (by omega) (by omega)
    rwa [EH1.out] at this
  have CR1 : Hid (∀ X : World, Calls Try.prog 18 #[.int .i64 ((dd - h1) * h * 128), .int .i64 dd] X fun e w' => e = .returned (.tuple #[.int .i64 r1, .int .i64 0]) ∧ Below X.heap.size X w') := fun X => by
    have := round_mid ((dd - h1) * h * 128) dd X (by omega) (by omega) (by omega) (by omega)
    rwa [ER1.out] at this
  clear eh1 er1
  go_upto_region 6 with (fail)
  have gN1 := Go.cell_regrown (w := w5) (a := ⟨w3.heap.size, 0, none⟩) (v := .int .i64 dd) (by rw [blk_cell bN5]; rfl)
  have gV1 := Go.cell_regrown (w := w5) (a := ⟨W.heap.size, 1, none⟩) (v := .int .i64 a1) (by rw [blk_cell bV5]; rfl)
  (refine wp_region_quiet_below (by kernel_rfl) (by kernel_rfl) ?_; (repeat (go_big_quiet_step ((first | (with_reducible exact Calls.regrown_of (CH1.out _ _)) | (with_reducible exact Calls.regrown_of (CR1.out _)))))); refine wpQuiet_nil ?_)
  intro w6 hU
  have KU := Rd.below_of_regrown hU
  clear hU CH1 CR1 gN1 gV1
  have bN6 := (blk_below KU _ (blk_lt bN5)).trans bN5
  have bV6 := (blk_below KU _ (blk_lt bV5)).trans bV5
  have bS6 := (blk_below KU _ (blk_lt bS5)).trans bS5
  have L6 : Below W.heap.size W w6 := by repeat' (first | (with_reducible exact Below.refl _ _) | (with_reducible refine Rd.below_step ?_ (by assumption)) | (with_reducible refine Rd.below_alloc ?_ _) | (with_reducible refine Rd.below_drewN ?_ _) | (with_reducible refine Below.drew ?_) | (with_reducible refine Below.setCell ?_ ?_ _) | (with_reducible refine Rd.below_setRow ?_ ?_ _) | go_size | (simp only [World.size_alloc]; omega) | omega)
  clear KU bN5 bV5 bS5 L5
  -- number 2
  obtain ⟨h2, eh2⟩ : ∃ x, held a2 dd = x := ⟨_, rfl⟩
  have hb2 : -dd ≤ h2 ∧ h2 ≤ dd := by have := held_bd (n := a2) (d := dd) (by omega); omega
  obtain ⟨r2, er2⟩ : ∃ x, near ((dd + h2) * 32767) dd = x := ⟨_, rfl⟩
  have EH2 := Lib.hid eh2
  have ER2 := Lib.hid er2
  have CH2 : Hid (∀ (d : Nat) (os : Array Obj), Calls Try.prog 17 #[.int .i64 a2, .pointer (some ⟨w3.heap.size, 0, none⟩)] (Sort.grow (redrawn w6 d) os) fun e w' => e = .returned (.int .i64 h2) ∧ Below (Sort.grow (redrawn w6 d) os).heap.size (Sort.grow (redrawn w6 d) os) w') := fun d os => by
    have := held_any a2 dd w3.heap.size (Sort.grow (redrawn w6 d) os) (Go.cell_regrown (by rw [blk_cell bN6]; rfl) d os) (by omega) (by omega)
    rwa [EH2.out] at this
  have CR2 : Hid (∀ X : World, Calls Try.prog 18 #[.int .i64 ((dd + h2) * 32767), .int .i64 dd] X fun e w' => e = .returned (.tuple #[.int .i64 r2, .int .i64 0]) ∧ Below X.heap.size X w') := fun X => by
    have := round_mid ((dd + h2) * 32767) dd X (by omega) (by omega) (by omega) (by omega)
    rwa [ER2.out] at this
  clear eh2 er2
  go_upto_region 7 with (fail)
  have gN2 := Go.cell_regrown (w := w6) (a := ⟨w3.heap.size, 0, none⟩) (v := .int .i64 dd) (by rw [blk_cell bN6]; rfl)
  have gV2 := Go.cell_regrown (w := w6) (a := ⟨W.heap.size, 2, none⟩) (v := .int .i64 a2) (by rw [blk_cell bV6]; rfl)
  (refine wp_region_quiet_below (by kernel_rfl) (by kernel_rfl) ?_; (repeat (go_big_quiet_step ((first | (with_reducible exact Calls.regrown_of (CH2.out _ _)) | (with_reducible exact Calls.regrown_of (CR2.out _)))))); refine wpQuiet_nil ?_)
  intro w7 hU
  have KU := Rd.below_of_regrown hU
  clear hU CH2 CR2 gN2 gV2
  have bN7 := (blk_below KU _ (blk_lt bN6)).trans bN6
  have bV7 := (blk_below KU _ (blk_lt bV6)).trans bV6
  have bS7 := (blk_below KU _ (blk_lt bS6)).trans bS6
  have L7 : Below W.heap.size W w7 := by repeat' (first | (with_reducible exact Below.refl _ _) | (with_reducible refine Rd.below_step ?_ (by assumption)) | (with_reducible refine Rd.below_alloc ?_ _) | (with_reducible refine Rd.below_drewN ?_ _) | (with_reducible refine Below.drew ?_) | (with_reducible refine Below.setCell ?_ ?_ _) | (with_reducible refine Rd.below_setRow ?_ ?_ _) | go_size | (simp only [World.size_alloc]; omega) | omega)
  clear KU bN6 bV6 bS6 L6
  have cN : w7.cell? ⟨w3.heap.size, 0, none⟩ = some (.int .i64 dd) := by rw [blk_cell bN7]; rfl
  have c4 : w7.cell? ⟨W.heap.size, 4, none⟩ = some (.int .i64 a4) := by rw [blk_cell bV7]; rfl
  have c5 : w7.cell? ⟨W.heap.size, 5, none⟩ = some (.int .i64 a5) := by rw [blk_cell bV7]; rfl
  have EL : spotL [a0, a1, a2, a3, a4, a5] w h = [r0, r1, r2, dd, a4, a5] := by
    unfold spotL nX nY nZ
    rw [ED.out]
    have e : ∀ (a0 a1 a2 a3 a4 a5 : Int), g [a0, a1, a2, a3, a4, a5] 0 = a0 ∧ g [a0, a1, a2, a3, a4, a5] 1 = a1 ∧ g [a0, a1, a2, a3, a4, a5] 2 = a2 ∧ g [a0, a1, a2, a3, a4, a5] 4 = a4 ∧ g [a0, a1, a2, a3, a4, a5] 5 = a5 := fun _ _ _ _ _ _ => ⟨rfl, rfl, rfl, rfl, rfl⟩
    simp only [e, EH0.out, EH1.out, EH2.out, ER0.out, ER1.out, ER2.out]
  have EE := Lib.hid EL
  clear EL
  go_wp2
  exact ret_spot2 rfl (W.heap.size + 1) [r0, r1, r2, dd, a4, a5] rfl rfl (blk_setRow_of bS7 _) rfl ⟨by rw [EA.out, EE.out]; rfl, by repeat' (first | (with_reducible exact Below.refl _ _) | (with_reducible refine Rd.below_step ?_ (by assumption)) | (with_reducible refine Rd.below_alloc ?_ _) | (with_reducible refine Rd.below_drewN ?_ _) | (with_reducible refine Below.drew ?_) | (with_reducible refine Below.setCell ?_ ?_ _) | (with_reducible refine Rd.below_setRow ?_ ?_ _) | go_size | (simp only [World.size_alloc]; omega) | omega)⟩
end Go.Proofs.Ytimfjogallcgnaa.ScB
