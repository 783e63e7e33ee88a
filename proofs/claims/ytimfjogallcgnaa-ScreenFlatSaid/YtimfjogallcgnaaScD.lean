/-
  May a triangle's numbers be: both answers.
-/
import Derived.Test.YtimfjogallcgnaaScC
namespace Go.Proofs.Ytimfjogallcgnaa.ScD
open Go.RowKit FixA Num Rd Go.Proofs.Ytimfjogallcgnaa.Row Mid ClM ScM ScA ScB ScC
set_option linter.unusedVariables false
set_option linter.unusedSimpArgs false
set_option maxRecDepth 10000
theorem load_vx (x : Value) : Instr.loadAt 25 x = loadRow 25 x := rfl
theorem store_vx (x v : Value) : Instr.storeAt 25 x v = storeRow 25 x v := rfl
theorem run_load_vx (g o : Nat) (W : World) : (loadRow 25 (.pointer (some ⟨g, o, none⟩))).run Try.prog W = midLoad Try.prog 25 6 g o W := run_loadMid Try.underlying25 rfl (by kernel_rfl) g o W
theorem run_store_vx (g o : Nat) (c : Array Value) (W : World) : (storeRow 25 (.pointer (some ⟨g, o, none⟩)) (.agg c)).run Try.prog W = rowStore Try.prog 25 6 g o c W := run_storeRow (by kernel_rfl) g o c W
theorem load_tri (x : Value) : Instr.loadAt 31 x = loadRow 31 x := rfl
theorem store_tri (x v : Value) : Instr.storeAt 31 x v = storeRow 31 x v := rfl
theorem run_load_tri (g o : Nat) (W : World) : (loadRow 31 (.pointer (some ⟨g, o, none⟩))).run Try.prog W = midLoad Try.prog 31 23 g o W := run_loadMid Try.underlying31 rfl (by kernel_rfl) g o W
theorem run_store_tri (g o : Nat) (c : Array Value) (W : World) : (storeRow 31 (.pointer (some ⟨g, o, none⟩)) (.agg c)).run Try.prog W = rowStore Try.prog 31 23 g o c W := run_storeRow (by kernel_rfl) g o c W
theorem store_tvx (x v : Value) : Instr.storeAt 50 x v = storeRow 50 x v := rfl
theorem run_store_tvx (g o : Nat) (c : Array Value) (W : World) : (storeRow 50 (.pointer (some ⟨g, o, none⟩)) (.agg c)).run Try.prog W = rowStore Try.prog 50 18 g o c W := run_storeRow (by kernel_rfl) g o c W
theorem pt_0 (x0 : Value) (x1 : Value) (x2 : Value) (x3 : Value) (x4 : Value) (x5 : Value) (x6 : Value) (x7 : Value) (x8 : Value) (x9 : Value) (x10 : Value) (x11 : Value) (x12 : Value) (x13 : Value) (x14 : Value) (x15 : Value) (x16 : Value) (x17 : Value) (x18 : Value) (x19 : Value) (x20 : Value) (x21 : Value) (x22 : Value) : piece #[x0, x1, x2, x3, x4, x5, x6, x7, x8, x9, x10, x11, x12, x13, x14, x15, x16, x17, x18, x19, x20, x21, x22] 0 6 = #[x0, x1, x2, x3, x4, x5] := rfl
theorem pt_6 (x0 : Value) (x1 : Value) (x2 : Value) (x3 : Value) (x4 : Value) (x5 : Value) (x6 : Value) (x7 : Value) (x8 : Value) (x9 : Value) (x10 : Value) (x11 : Value) (x12 : Value) (x13 : Value) (x14 : Value) (x15 : Value) (x16 : Value) (x17 : Value) (x18 : Value) (x19 : Value) (x20 : Value) (x21 : Value) (x22 : Value) : piece #[x0, x1, x2, x3, x4, x5, x6, x7, x8, x9, x10, x11, x12, x13, x14, x15, x16, x17, x18, x19, x20, x21, x22] 6 6 = #[x6, x7, x8, x9, x10, x11] := rfl
theorem pt_12 (x0 : Value) (x1 : Value) (x2 : Value) (x3 : Value) (x4 : Value) (x5 : Value) (x6 : Value) (x7 : Value) (x8 : Value) (x9 : Value) (x10 : Value) (x11 : Value) (x12 : Value) (x13 : Value) (x14 : Value) (x15 : Value) (x16 : Value) (x17 : Value) (x18 : Value) (x19 : Value) (x20 : Value) (x21 : Value) (x22 : Value) : piece #[x0, x1, x2, x3, x4, x5, x6, x7, x8, x9, x10, x11, x12, x13, x14, x15, x16, x17, x18, x19, x20, x21, x22] 12 6 = #[x12, x13, x14, x15, x16, x17] := rfl
theorem pt_all (x0 : Value) (x1 : Value) (x2 : Value) (x3 : Value) (x4 : Value) (x5 : Value) (x6 : Value) (x7 : Value) (x8 : Value) (x9 : Value) (x10 : Value) (x11 : Value) (x12 : Value) (x13 : Value) (x14 : Value) (x15 : Value) (x16 : Value) (x17 : Value) (x18 : Value) (x19 : Value) (x20 : Value) (x21 : Value) (x22 : Value) : piece #[x0, x1, x2, x3, x4, x5, x6, x7, x8, x9, x10, x11, x12, x13, x14, x15, x16, x17, x18, x19, x20, x21, x22] 0 23 = #[x0, x1, x2, x3, x4, x5, x6, x7, x8, x9, x10, x11, x12, x13, x14, x15, x16, x17, x18, x19, x20, x21, x22] := by simp [Mid.piece]
attribute [local go_sem ↓] load_spot store_spot load_vx store_vx load_tri store_tri store_tvx
attribute [local go_sem] one_int run_load_spot run_store_spot run_load_vx run_store_vx run_load_tri run_store_tri run_store_tvx rowLoad_eq rowStore_eq midLoad_eq pt_0 pt_6 pt_12 pt_all blk_alloc_at blk_alloc_old blk_drew blk_drewN blk_set_far blk_set_far' blk_grow setRow_alloc_at setRow_alloc_old setRow_drew setRow_drewN
theorem may_two (a0 a1 a2 a3 a4 a5 : Int) : mayV [a0, a1, a2, a3, a4, a5] = ([a0, a1, a2].all (bigB 4194304) && (decide (a3 = 65536) && [a4, a5].all (bigB 67108864))) := by
  have e : mayV [a0, a1, a2, a3, a4, a5] = ((bigB 4194304 a0 && (bigB 4194304 a1 && bigB 4194304 a2)) && (decide (a3 = 65536) && (bigB 67108864 a4 && bigB 67108864 a5))) := rfl
  rw [e]
  simp only [List.all_cons, List.all_nil, Bool.and_true]
set_option maxHeartbeats 1000000 in
theorem may_any (v : List Int) (hl : v.length = 6) (W : World) :
    Calls Try.prog 23 #[.agg (cs .i64 v)] W fun e w' => e = .returned (.bool (mayV v)) ∧ Below W.heap.size W w' := by
  obtain ⟨a0, a1, a2, a3, a4, a5, rfl⟩ := len6' hl
  go_enter Try.func23, Try.ntmps23
  go_wp2_with fail
  have bV : blk (W.alloc (.cells (cs .i64 [a0, a1, a2, a3, a4, a5]) 25)) W.heap.size = some (.cells #[.int .i64 a0, .int .i64 a1, .int .i64 a2, .int .i64 a3, .int .i64 a4, .int .i64 a5] 25 (0, 0)) := blk_alloc_at _ _ _ rfl
  have hr1 : Reads (W.alloc (.cells (cs .i64 [a0, a1, a2, a3, a4, a5]) 25)) 1 (some ⟨W.heap.size, 0, none⟩) 3 ([a0, a1, a2].map (Value.int .i64)) := reads_blk bV 0 _ 3 rfl (fun i hi => by
    have : i = 0 ∨ i = 1 ∨ i = 2 := by simp at hi; omega
    rcases this with rfl | rfl | rfl <;> rfl)
  refine (within_any 4194304 (by omega) (by omega) [a0, a1, a2] _ 3 _ _ hr1 (by omega)).mono ?_
  rintro e w1 ⟨rfl, hb1⟩
  have s1 := hb1.size
  simp only [World.size_alloc] at s1
  have bV1 := (blk_below hb1 _ (by simp)).trans bV
  have L1 : Below W.heap.size W w1 := by repeat' (first | (with_reducible exact Below.refl _ _) | (with_reducible refine Rd.below_step ?_ (by assumption)) | (with_reducible refine Rd.below_alloc ?_ _) | (with_reducible refine Rd.below_drewN ?_ _) | (with_reducible refine Below.drew ?_) | (with_reducible refine Below.setCell ?_ ?_ _) | (with_reducible refine Rd.below_setRow ?_ ?_ _) | go_size | (simp only [World.size_alloc]; omega) | omega)
  clear hb1 bV hr1
  obtain ⟨q1, e1⟩ : ∃ q, [a0, a1, a2].all (bigB 4194304) = q := ⟨_, rfl⟩
  rw [e1]
  have E1 := Lib.hid e1
  clear e1
  cases q1
  case false =>
    have EA := Lib.hid (show mayV [a0, a1, a2, a3, a4, a5] = false by rw [may_two, E1.out]; rfl)
    go_wp2
    go_ret
    exact ⟨ret_bool EA.out.symm, by repeat' (first | (with_reducible exact Below.refl _ _) | (with_reducible refine Rd.below_step ?_ (by assumption)) | (with_reducible refine Rd.below_alloc ?_ _) | (with_reducible refine Rd.below_drewN ?_ _) | (with_reducible refine Below.drew ?_) | (with_reducible refine Below.setCell ?_ ?_ _) | (with_reducible refine Rd.below_setRow ?_ ?_ _) | go_size | (simp only [World.size_alloc]; omega) | omega)⟩
  have c3 : w1.cell? ⟨W.heap.size, 3, none⟩ = some (.int .i64 a3) := by rw [blk_cell bV1]; rfl
  have c4 : w1.cell? ⟨W.heap.size, 4, none⟩ = some (.int .i64 a4) := by rw [blk_cell bV1]; rfl
  have c5 : w1.cell? ⟨W.heap.size, 5, none⟩ = some (.int .i64 a5) := by rw [blk_cell bV1]; rfl
  by_cases h3 : a3 = 65536
  case neg =>
    have EA := Lib.hid (show mayV [a0, a1, a2, a3, a4, a5] = false by rw [may_two, decide_eq_false h3]; simp)
    have d1 : (a3 == 65536) = false := by simpa using h3
    go_wp2
    go_ret
    exact ⟨ret_bool EA.out.symm, by repeat' (first | (with_reducible exact Below.refl _ _) | (with_reducible refine Rd.below_step ?_ (by assumption)) | (with_reducible refine Rd.below_alloc ?_ _) | (with_reducible refine Rd.below_drewN ?_ _) | (with_reducible refine Below.drew ?_) | (with_reducible refine Below.setCell ?_ ?_ _) | (with_reducible refine Rd.below_setRow ?_ ?_ _) | go_size | (simp only [World.size_alloc]; omega) | omega)⟩
  have H3 := Lib.hid (show decide (a3 = 65536) = true from decide_eq_true h3)
  subst h3
  go_wp2_with fail
  have hr2 : Reads (w1.alloc (.cells #[.int .i64 a4, .int .i64 a5] 3)) 1 (some ⟨w1.heap.size, 0, none⟩) 2 ([a4, a5].map (Value.int .i64)) := reads_blk (blk_alloc_at _ _ _ rfl) 0 _ 2 rfl (fun i hi => by
    have : i = 0 ∨ i = 1 := by simp at hi; omega
    rcases this with rfl | rfl <;> rfl)
  refine (within_any 67108864 (by omega) (by omega) [a4, a5] _ 2 _ _ hr2 (by omega)).mono ?_
  rintro e w2 ⟨rfl, hb2⟩
  have L2 : Below W.heap.size W w2 := by repeat' (first | (with_reducible exact Below.refl _ _) | (with_reducible refine Rd.below_step ?_ (by assumption)) | (with_reducible refine Rd.below_alloc ?_ _) | (with_reducible refine Rd.below_drewN ?_ _) | (with_reducible refine Below.drew ?_) | (with_reducible refine Below.setCell ?_ ?_ _) | (with_reducible refine Rd.below_setRow ?_ ?_ _) | go_size | (simp only [World.size_alloc]; omega) | omega)
  have EA := Lib.hid (show mayV [a0, a1, a2, 65536, a4, a5] = [a4, a5].all (bigB 67108864) by rw [may_two, E1.out]; simp)
  go_wp2
  go_ret
  exact ⟨ret_bool (by rw [EA.out]; simp), by repeat' (first | (with_reducible exact Below.refl _ _) | (with_reducible refine Rd.below_step ?_ (by assumption)) | (with_reducible refine Rd.below_alloc ?_ _) | (with_reducible refine Rd.below_drewN ?_ _) | (with_reducible refine Below.drew ?_) | (with_reducible refine Below.setCell ?_ ?_ _) | (with_reducible refine Rd.below_setRow ?_ ?_ _) | go_size | (simp only [World.size_alloc]; omega) | omega)⟩
theorem mayT_no {t : List Int} {i : Nat} (hi : i < 3) (h : mayV (vtx t i) = false) : mayT t = false := by
  have : i = 0 ∨ i = 1 ∨ i = 2 := by omega
  rcases this with rfl | rfl | rfl <;> (unfold mayT; rw [h]; simp)
theorem mayT_all {t : List Int} (h : ∀ i, i < 3 → mayV (vtx t i) = true) : mayT t = true := by
  unfold mayT; rw [h 0 (by omega), h 1 (by omega), h 2 (by omega)]; rfl
theorem mayV_no {v : List Int} {j : Nat} (hj : j < 3) (h : bigB 4194304 (g v j) = false) : mayV v = false := by
  have : j = 0 ∨ j = 1 ∨ j = 2 := by omega
  rcases this with rfl | rfl | rfl <;> (unfold mayV; rw [h]; simp)
theorem mayV_no3 {v : List Int} (h : ¬ g v 3 = 65536) : mayV v = false := by unfold mayV; rw [decide_eq_false h]; simp
theorem mayV_no4 {v : List Int} (h : bigB 67108864 (g v 4) = false) : mayV v = false := by unfold mayV; rw [h]; simp
theorem mayV_no5 {v : List Int} (h : bigB 67108864 (g v 5) = false) : mayV v = false := by unfold mayV; rw [h]; simp
theorem mayV_all {v : List Int} (h : ∀ j, j < 3 → bigB 4194304 (g v j) = true) (h3 : g v 3 = 65536) (h4 : bigB 67108864 (g v 4) = true) (h5 : bigB 67108864 (g v 5) = true) : mayV v = true := by
  unfold mayV; rw [h 0 (by omega), h 1 (by omega), h 2 (by omega), decide_eq_true h3, h4, h5]; rfl
theorem step_b {p : Nat → Prop} {k : Nat} (h : ∀ j, j < k → p j) (h2 : p k) : ∀ j, j < k + 1 → p j := by
  intro j hj
  by_cases e : j = k
  · subst e; exact h2
  · exact h j (by omega)
theorem cells18 (t0 t1 t2 t3 t4 t5 t6 t7 t8 t9 t10 t11 t12 t13 t14 t15 t16 t17 t18 : Int) (i j : Nat) (hi : i < 3) (hj : j < 6) : (#[.int .i64 t0, .int .i64 t1, .int .i64 t2, .int .i64 t3, .int .i64 t4, .int .i64 t5, .int .i64 t6, .int .i64 t7, .int .i64 t8, .int .i64 t9, .int .i64 t10, .int .i64 t11, .int .i64 t12, .int .i64 t13, .int .i64 t14, .int .i64 t15, .int .i64 t16, .int .i64 t17] : Array Value)[i * 6 + j]? = some (.int .i64 (g (vtx [t0, t1, t2, t3, t4, t5, t6, t7, t8, t9, t10, t11, t12, t13, t14, t15, t16, t17, t18] i) j)) := by
  have h1 : i = 0 ∨ i = 1 ∨ i = 2 := by omega
  have h2 : j = 0 ∨ j = 1 ∨ j = 2 ∨ j = 3 ∨ j = 4 ∨ j = 5 := by omega
  rcases h1 with rfl | rfl | rfl <;> rcases h2 with rfl | rfl | rfl | rfl | rfl | rfl <;> rfl
set_option maxHeartbeats 2000000 in
theorem rmayT_any (t0 t1 t2 t3 t4 t5 t6 t7 t8 t9 t10 t11 t12 t13 t14 t15 t16 t17 t18 c0 c1 c2 c3 : Int) (W : World) :
    Calls Try.prog 28 #[.agg #[.int .i64 t0, .int .i64 t1, .int .i64 t2, .int .i64 t3, .int .i64 t4, .int .i64 t5, .int .i64 t6, .int .i64 t7, .int .i64 t8, .int .i64 t9, .int .i64 t10, .int .i64 t11, .int .i64 t12, .int .i64 t13, .int .i64 t14, .int .i64 t15, .int .i64 t16, .int .i64 t17, .int .i64 t18, .int .u8 c0, .int .u8 c1, .int .u8 c2, .int .u8 c3]] W fun e w' => e = .returned (.bool (mayT [t0, t1, t2, t3, t4, t5, t6, t7, t8, t9, t10, t11, t12, t13, t14, t15, t16, t17, t18])) ∧ Below W.heap.size W w' := by
  have C18 := Lib.hid (cells18 t0 t1 t2 t3 t4 t5 t6 t7 t8 t9 t10 t11 t12 t13 t14 t15 t16 t17 t18)
  obtain ⟨T, hT⟩ : ∃ T, T = [t0, t1, t2, t3, t4, t5, t6, t7, t8, t9, t10, t11, t12, t13, t14, t15, t16, t17, t18] := ⟨_, rfl⟩
  rw [← hT] at C18 ⊢
  clear hT
  go_enter Try.func28, Try.ntmps28
  go_upto_region 2 with (fail)
  refine Rd.name_world ?_
  intro w1 hw
  have bT : blk w1 (W.heap.size + 1) = some (.cells #[.int .i64 t0, .int .i64 t1, .int .i64 t2, .int .i64 t3, .int .i64 t4, .int .i64 t5, .int .i64 t6, .int .i64 t7, .int .i64 t8, .int .i64 t9, .int .i64 t10, .int .i64 t11, .int .i64 t12, .int .i64 t13, .int .i64 t14, .int .i64 t15, .int .i64 t16, .int .i64 t17] 50 (0, 0)) := by rw [hw]; exact blk2_1 _ _ _
  have L1 : Below W.heap.size W w1 := by
    rw [hw]
    repeat' (first | (with_reducible exact Below.refl _ _) | (with_reducible refine Rd.below_step ?_ (by assumption)) | (with_reducible refine Rd.below_alloc ?_ _) | (with_reducible refine Rd.below_drewN ?_ _) | (with_reducible refine Below.drew ?_) | (with_reducible refine Below.setCell ?_ ?_ _) | (with_reducible refine Rd.below_setRow ?_ ?_ _) | go_size | (simp only [World.size_alloc]; omega) | omega)
  have CT := Lib.hid (fun (i j : Nat) (hi : i < 3) (hj : j < 6) => (blk_cell bT (i * 6 + j)).trans (C18.out i j hi hj))
  have lT := blk_lt bT
  clear hw bT C18
  go_wp2_with fail
  go_loopw [4] (fun i wr => ∃ k : Nat, k ≤ 3 ∧ i = .int .i64 k ∧ Hid (∀ i, i < k → mayV (vtx T i) = true) ∧ Below w1.heap.size w1 wr) (fun i _ => 3 - (intOf i).toNat)
  case atStart => exact ⟨0, by omega, rfl, Lib.hid (fun j hj => absurd hj (by omega)), Below.refl _ _⟩
  case round =>
    obtain ⟨k, hk, rfl, HT, hb⟩ := hrel
    by_cases hlt : k < 3
    · have hlt' : (k : Int) < 3 := by omega
      obtain ⟨v, hv⟩ : ∃ v, vtx T k = v := ⟨_, rfl⟩
      have CK := Lib.hid (fun (X : World) (hX : Below w1.heap.size w1 X) (j : Nat) (hj : j < 6) => (hX.cell (p := ⟨W.heap.size + 1, k * 6 + j, none⟩) lT).trans (CT.out k j hlt hj))
      rw [hv] at CK
      have HV := Lib.hid hv
      clear hv
      go_wp2_with fail
      go_loopw [5] (fun i W2 => ∃ j : Nat, j ≤ 3 ∧ i = .int .i64 j ∧ Hid (∀ i, i < j → bigB 4194304 (g v i) = true) ∧ Below w1.heap.size w1 W2) (fun i _ => 3 - (intOf i).toNat)
      case atStart => exact ⟨0, by omega, rfl, Lib.hid (fun j hj => absurd hj (by omega)), hb⟩
      case round =>
        obtain ⟨j, hj, rfl, HJ, hbj⟩ := hrel
        rename World => W2
        by_cases hlj : j < 3
        · have hlj' : (j : Int) < 3 := by omega
          obtain ⟨x, ex⟩ : ∃ x, g v j = x := ⟨_, rfl⟩
          have c0 : W2.cell? ⟨W.heap.size + 1, k * 6 + j, none⟩ = some (.int .i64 x) := by rw [← ex]; exact CK.out W2 hbj j (by omega)
          have EX := Lib.hid ex
          clear ex
          go_wp2_with fail
          refine (rwithin_any x (-4194304) 4194304 _).mono ?_
          rintro e w3 ⟨rfl, hb3⟩
          have L3 : Below w1.heap.size w1 w3 := by repeat' (first | (with_reducible exact Below.refl _ _) | (with_reducible refine Rd.below_step ?_ (by assumption)) | (with_reducible refine Rd.below_alloc ?_ _) | (with_reducible refine Rd.below_drewN ?_ _) | (with_reducible refine Below.drew ?_) | (with_reducible refine Below.setCell ?_ ?_ _) | (with_reducible refine Rd.below_setRow ?_ ?_ _) | go_size | (simp only [World.size_alloc]; omega) | omega)
          clear hb3 c0
          obtain ⟨q, eq⟩ : ∃ q, decide (-4194304 ≤ x ∧ x ≤ 4194304) = q := ⟨_, rfl⟩
          rw [eq]
          have EQ := Lib.hid eq
          clear eq
          cases q
          case false =>
            have EA := Lib.hid (mayT_no hlt (by rw [HV.out]; exact mayV_no hlj (by rw [EX.out]; exact EQ.out)))
            go_wp2
            go_ret
            exact ⟨ret_bool EA.out.symm, L1.trans (L3.mono L1.size)⟩
          have HN := Lib.hid (step_b (p := fun i => bigB 4194304 (g v i) = true) HJ.out (by rw [EX.out]; exact EQ.out))
          go_wp2
          go_roundw
          case rel => exact ⟨j + 1, by omega, by go_num, HN, L3⟩
          case measure => simp [intOf]; omega
        · obtain rfl : j = 3 := by omega
          obtain ⟨x3, e3⟩ : ∃ x, g v 3 = x := ⟨_, rfl⟩
          obtain ⟨x4, e4⟩ : ∃ x, g v 4 = x := ⟨_, rfl⟩
          obtain ⟨x5, e5⟩ : ∃ x, g v 5 = x := ⟨_, rfl⟩
          have c3 : W2.cell? ⟨W.heap.size + 1, k * 6 + 3, none⟩ = some (.int .i64 x3) := by rw [← e3]; exact CK.out W2 hbj 3 (by omega)
          have c4 : W2.cell? ⟨W.heap.size + 1, k * 6 + 4, none⟩ = some (.int .i64 x4) := by rw [← e4]; exact CK.out W2 hbj 4 (by omega)
          have E3 := Lib.hid e3
          have E4 := Lib.hid e4
          have E5 := Lib.hid e5
          clear e3 e4
          by_cases h3 : x3 = 65536
          case neg =>
            have EA := Lib.hid (mayT_no hlt (by rw [HV.out]; exact mayV_no3 (by rw [E3.out]; exact h3)))
            have d1 : (x3 == 65536) = false := by simpa using h3
            go_wp2
            go_ret
            exact ⟨ret_bool EA.out.symm, L1.trans (hbj.mono L1.size)⟩
          subst h3
          go_wp2_with fail
          refine (rwithin_any x4 (-67108864) 67108864 _).mono ?_
          rintro e w3 ⟨rfl, hb3⟩
          have L3 : Below w1.heap.size w1 w3 := by repeat' (first | (with_reducible exact Below.refl _ _) | (with_reducible refine Rd.below_step ?_ (by assumption)) | (with_reducible refine Rd.below_alloc ?_ _) | (with_reducible refine Rd.below_drewN ?_ _) | (with_reducible refine Below.drew ?_) | (with_reducible refine Below.setCell ?_ ?_ _) | (with_reducible refine Rd.below_setRow ?_ ?_ _) | go_size | (simp only [World.size_alloc]; omega) | omega)
          have c5 : w3.cell? ⟨W.heap.size + 1, k * 6 + 5, none⟩ = some (.int .i64 x5) := by rw [← e5]; exact CK.out w3 L3 5 (by omega)
          clear hb3 c3 c4 e5
          obtain ⟨q4, eq4⟩ : ∃ q, decide (-67108864 ≤ x4 ∧ x4 ≤ 67108864) = q := ⟨_, rfl⟩
          rw [eq4]
          have EQ4 := Lib.hid eq4
          clear eq4
          cases q4
          case false =>
            have EA := Lib.hid (mayT_no hlt (by rw [HV.out]; exact mayV_no4 (by rw [E4.out]; exact EQ4.out)))
            go_wp2
            go_ret
            exact ⟨ret_bool EA.out.symm, L1.trans (L3.mono L1.size)⟩
          go_wp2_with fail
          refine (rwithin_any x5 (-67108864) 67108864 _).mono ?_
          rintro e w4 ⟨rfl, hb4⟩
          have L4 : Below w1.heap.size w1 w4 := by repeat' (first | (with_reducible exact Below.refl _ _) | (with_reducible refine Rd.below_step ?_ (by assumption)) | (with_reducible refine Rd.below_alloc ?_ _) | (with_reducible refine Rd.below_drewN ?_ _) | (with_reducible refine Below.drew ?_) | (with_reducible refine Below.setCell ?_ ?_ _) | (with_reducible refine Rd.below_setRow ?_ ?_ _) | go_size | (simp only [World.size_alloc]; omega) | omega)
          clear hb4 c5
          obtain ⟨q5, eq5⟩ : ∃ q, decide (-67108864 ≤ x5 ∧ x5 ≤ 67108864) = q := ⟨_, rfl⟩
          rw [eq5]
          have EQ5 := Lib.hid eq5
          clear eq5
          cases q5
          case false =>
            have EA := Lib.hid (mayT_no hlt (by rw [HV.out]; exact mayV_no5 (by rw [E5.out]; exact EQ5.out)))
            go_wp2
            go_ret
            exact ⟨ret_bool EA.out.symm, L1.trans (L4.mono L1.size)⟩
          have HN := Lib.hid (step_b (p := fun i => mayV (vtx T i) = true) HT.out (by rw [HV.out]; exact mayV_all HJ.out E3.out (by rw [E4.out]; exact EQ4.out) (by rw [E5.out]; exact EQ5.out)))
          go_wp2
          exact ⟨⟨k + 1, by omega, by go_num, HN, L4⟩, by simp [intOf]; omega⟩
    · obtain rfl : k = 3 := by omega
      have EA := Lib.hid (mayT_all HT.out)
      go_wp2
      go_ret
      exact ⟨ret_bool EA.out.symm, L1.trans (hb.mono L1.size)⟩
end Go.Proofs.Ytimfjogallcgnaa.ScD
