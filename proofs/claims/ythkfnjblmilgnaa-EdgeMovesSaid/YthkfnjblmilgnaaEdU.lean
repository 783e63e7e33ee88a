/-
  The walk of EdgeMoves.
-/
import Derived.Test.YthkfnjblmilgnaaEdT
import Derived.Test.YthkfnjblmilgnaaPredT
import Derived.Deep.QuietTactic
import Derived.BigQuiet
namespace Go.Proofs.Ythkfnjblmilgnaa.EdU
open Go.RowKit FixA Num Rd Go.Proofs.Ythkfnjblmilgnaa.Row Mid EdM EdA EdB EdF EdE EdG EdN EdI EdFf EdP EdQ EdT
open Go.Proofs.Ythkfnjblmilgnaa.Pred (Is is_stab Stab)
set_option linter.unusedVariables false
set_option linter.unusedSimpArgs false
set_option maxRecDepth 10000
theorem run_store_spotM (g o : Nat) (c : Array Value) (W : World) : (storeRow 23 (.pointer (some ⟨g, o, none⟩)) (.agg c)).run Try.prog W = midStore Try.prog 23 6 g o c W := run_storeMid (by kernel_rfl) (by omega) g o c W
theorem below_far (X : World) (g o : Nat) (v : Value) : Below g X (X.setCell ⟨g, o, none⟩ v) := Below.setCell (Below.refl _ _) (show g ≤ g from Nat.le_refl _) _
def lowB (x y : Int) : Bool := decide (0 ≤ x ∧ x ≤ 5120 ∧ 0 ≤ y ∧ y ≤ 5120)
def lowK (t : List Int) : Nat → Bool
  | 0 => lowB (g t 0) (g t 1)
  | 1 => lowB (g t 6) (g t 7)
  | _ => lowB (g t 12) (g t 13)
theorem low_of {t : List Int} (hl : t.length = 18) (h : ∀ j, j < 3 → lowK t j = true) : Low t :=
  ⟨hl, of_decide_eq_true (p := _ ∧ _) (h 0 (by omega)), of_decide_eq_true (p := _ ∧ _) (h 1 (by omega)), of_decide_eq_true (p := _ ∧ _) (h 2 (by omega))⟩
theorem l_step {t : List Int} {k : Nat} (h : ∀ j, j < k → lowK t j = true) (h2 : lowK t k = true) : ∀ j, j < k + 1 → lowK t j = true := by
  intro j hj
  by_cases e : j = k
  · subst e; exact h2
  · exact h j (by omega)
def oK (x0 x1 x2 x3 x4 x5 x6 x7 x8 x9 x10 x11 x12 x13 x14 x15 x16 x17 i k : Int) : Nat → List Int
  | 0 => [0, 0, 0, 0, 0, 0, 0, 0, 0, 0, 0, 0, 0, 0, 0, 0, 0, 0]
  | 1 => [x0 + 256 * i, x1 + 256 * k, x2, x3, x4, x5, 0, 0, 0, 0, 0, 0, 0, 0, 0, 0, 0, 0]
  | 2 => [x0 + 256 * i, x1 + 256 * k, x2, x3, x4, x5, x6 + 256 * i, x7 + 256 * k, x8, x9, x10, x11, 0, 0, 0, 0, 0, 0]
  | _ => [x0 + 256 * i, x1 + 256 * k, x2, x3, x4, x5, x6 + 256 * i, x7 + 256 * k, x8, x9, x10, x11, x12 + 256 * i, x13 + 256 * k, x14, x15, x16, x17]
attribute [local go_sem ↓] store_spot load_tri store_tri load_spot load_hit store_hit
attribute [local go_sem] one_int run_store_spotM midStore_eq run_load_spot run_load_tri run_load_hit run_store_tri run_store_hit rowLoad_eq rowStore_eq midLoad_eq ext0 ext1 ext2 blk_alloc_at blk_alloc_old blk_drew blk_drewN blk_set_far blk_set_far' blk_grow setRow_alloc_at setRow_alloc_old setRow_drew setRow_drewN all_map
attribute [local go_sem ↓] eq_w3e
set_option maxHeartbeats 8000000 in
theorem moves_gen (x0 x1 x2 x3 x4 x5 x6 x7 x8 x9 x10 x11 x12 x13 x14 x15 x16 x17 x y : Int) (w : World) (hx1 : -9223372036854775808 ≤ x) (hx2 : x ≤ 9223372036854775807) (hy1 : -9223372036854775808 ≤ y) (hy2 : y ≤ 9223372036854775807) :
    Calls Try.prog 7 #[.agg (cs .i64 [x0, x1, x2, x3, x4, x5, x6, x7, x8, x9, x10, x11, x12, x13, x14, x15, x16, x17]), .int .i64 x, .int .i64 y] w fun e w' => e = .returned (.bool true) ∧ Below w.heap.size w w' := by
  obtain ⟨i, ei⟩ : ∃ m, x % 8 = m := ⟨_, rfl⟩
  obtain ⟨k, ek⟩ : ∃ m, y % 8 = m := ⟨_, rfl⟩
  have RX : Hid (∀ X : World, Calls Try.prog 19 #[.int .i64 x, .int .i64 8] X fun e w' => e = .returned (.int .i64 i) ∧ X = w') := Lib.hid fun X => by
    have := Alk.round_any x 8 X hx1 hx2 (by omega) (by omega)
    rw [ei] at this
    exact this
  have RY : Hid (∀ X : World, Calls Try.prog 19 #[.int .i64 y, .int .i64 8] X fun e w' => e = .returned (.int .i64 k) ∧ X = w') := Lib.hid fun X => by
    have := Alk.round_any y 8 X hy1 hy2 (by omega) (by omega)
    rw [ek] at this
    exact this
  have hi0 : 0 ≤ i := by omega
  have hi1 : i < 8 := by omega
  have hk0 : 0 ≤ k := by omega
  have hk1 : k < 8 := by omega
  clear ei ek hx1 hx2 hy1 hy2
  have l0 : (sp [x0, x1, x2, x3, x4, x5, x6, x7, x8, x9, x10, x11, x12, x13, x14, x15, x16, x17] 0).length = 6 := rfl
  have l1 : (sp [x0, x1, x2, x3, x4, x5, x6, x7, x8, x9, x10, x11, x12, x13, x14, x15, x16, x17] 1).length = 6 := rfl
  have l2 : (sp [x0, x1, x2, x3, x4, x5, x6, x7, x8, x9, x10, x11, x12, x13, x14, x15, x16, x17] 2).length = 6 := rfl
  go_enter Try.func7, Try.ntmps7
  go_wp2_with fail
  refine (RX.out _).mono ?_
  rintro e w1 ⟨rfl, rfl⟩
  go_wp2_with fail
  refine (RY.out _).mono ?_
  rintro e w1 ⟨rfl, rfl⟩
  go_upto_region 3 with (fail)
  refine Rd.name_world ?_
  intro w3 hw
  have bT3 : blk w3 w.heap.size = some (.cells (cs .i64 [x0, x1, x2, x3, x4, x5, x6, x7, x8, x9, x10, x11, x12, x13, x14, x15, x16, x17]) 24 (0, 0)) := by rw [hw]; exact blk2_0 _ _ _
  have bO3 : blk w3 (w.heap.size + 1) = some (.cells (cs .i64 (oK x0 x1 x2 x3 x4 x5 x6 x7 x8 x9 x10 x11 x12 x13 x14 x15 x16 x17 i k 0)) 24 (0, 0)) := by rw [hw]; exact blk2_1 _ _ _
  have L3 : Below w.heap.size w w3 := by
    rw [hw]
    repeat' (first | (with_reducible exact Below.refl _ _) | (with_reducible refine Rd.below_step ?_ (by assumption)) | (with_reducible refine Rd.below_alloc ?_ _) | (with_reducible refine Rd.below_drewN ?_ _) | (with_reducible refine Below.drew ?_) | (with_reducible refine Below.setCell ?_ ?_ _) | (with_reducible refine Rd.below_setRow ?_ ?_ _) | go_size | (simp only [World.size_alloc]; omega) | omega)
  clear hw
  go_wp2_with fail
  go_loopw [10] (fun v X => ∃ j : Nat, j ≤ 3 ∧ v = .int .i64 j ∧ Hid (∀ m, m < j → lowK [x0, x1, x2, x3, x4, x5, x6, x7, x8, x9, x10, x11, x12, x13, x14, x15, x16, x17] m = true) ∧ blk X w.heap.size = some (.cells (cs .i64 [x0, x1, x2, x3, x4, x5, x6, x7, x8, x9, x10, x11, x12, x13, x14, x15, x16, x17]) 24 (0, 0)) ∧ blk X (w.heap.size + 1) = some (.cells (cs .i64 (oK x0 x1 x2 x3 x4 x5 x6 x7 x8 x9 x10 x11 x12 x13 x14 x15 x16 x17 i k j)) 24 (0, 0)) ∧ Below w.heap.size w X) (fun v _ => 3 - (intOf v).toNat)
  case atStart => exact ⟨0, by omega, rfl, Lib.hid fun m hm => absurd hm (by omega), bT3, bO3, L3⟩
  case round =>
    obtain ⟨j, hj, rfl, HF, BT, BO, LY⟩ := hrel
    rename World => Y
    clear bT3 bO3 L3
    by_cases hlt : j < 3
    · have e3 : j = 0 ∨ j = 1 ∨ j = 2 := by omega
      rcases e3 with rfl | rfl | rfl
      · have FK : lowK [x0, x1, x2, x3, x4, x5, x6, x7, x8, x9, x10, x11, x12, x13, x14, x15, x16, x17] 0 = lowB x0 x1 := rfl
        have bT8 : blk Y w.heap.size = some (.cells (cs .i64 [x0, x1, x2, x3, x4, x5, x6, x7, x8, x9, x10, x11, x12, x13, x14, x15, x16, x17]) 24 (0, 0)) := BT
        have bO0 : blk Y (w.heap.size + 1) = some (.cells (cs .i64 [0, 0, 0, 0, 0, 0, 0, 0, 0, 0, 0, 0, 0, 0, 0, 0, 0, 0]) 24 (0, 0)) := BO
        have cx : Y.cell? ⟨w.heap.size, 0, none⟩ = some (.int .i64 x0) := by rw [blk_cell bT8]; rfl
        have cy : Y.cell? ⟨w.heap.size, 1, none⟩ = some (.int .i64 x1) := by rw [blk_cell bT8]; rfl
        clear BT BO
        by_cases h0 : x0 < 0
        · have d0 : decide (x0 < 0) = true := decide_eq_true h0
          clear FK h0
          go_wp2_with fail
          refine (awake_any _).mono ?_
          rintro e w6 ⟨rfl, hb6⟩
          have L6 : Below w.heap.size w w6 := LY.trans (hb6.mono LY.size)
          clear hb6
          go_wp2
          go_ret
          exact ⟨rfl, L6⟩
        have d0 : decide (x0 < 0) = false := decide_eq_false h0
        by_cases h1 : 5120 < x0
        · have d1 : decide (5120 < x0) = true := decide_eq_true h1
          clear FK h1
          go_wp2_with fail
          refine (awake_any _).mono ?_
          rintro e w6 ⟨rfl, hb6⟩
          have L6 : Below w.heap.size w w6 := LY.trans (hb6.mono LY.size)
          clear hb6
          go_wp2
          go_ret
          exact ⟨rfl, L6⟩
        have d1 : decide (5120 < x0) = false := decide_eq_false h1
        by_cases h2 : x1 < 0
        · have d2 : decide (x1 < 0) = true := decide_eq_true h2
          clear FK h2
          go_wp2_with fail
          refine (awake_any _).mono ?_
          rintro e w6 ⟨rfl, hb6⟩
          have L6 : Below w.heap.size w w6 := LY.trans (hb6.mono LY.size)
          clear hb6
          go_wp2
          go_ret
          exact ⟨rfl, L6⟩
        have d2 : decide (x1 < 0) = false := decide_eq_false h2
        by_cases h3 : 5120 < x1
        · have d3 : decide (5120 < x1) = true := decide_eq_true h3
          clear FK h3
          go_wp2_with fail
          refine (awake_any _).mono ?_
          rintro e w6 ⟨rfl, hb6⟩
          have L6 : Below w.heap.size w w6 := LY.trans (hb6.mono LY.size)
          clear hb6
          go_wp2
          go_ret
          exact ⟨rfl, L6⟩
        have d3 : decide (5120 < x1) = false := decide_eq_false h3
        have FY := Lib.hid (l_step HF.out (FK.trans (decide_eq_true (by omega))))
        clear FK
        go_upto_region 9 with (fail)
        refine Rd.name_world ?_
        intro W8 hw
        have bT : blk W8 w.heap.size = some (.cells (cs .i64 [x0, x1, x2, x3, x4, x5, x6, x7, x8, x9, x10, x11, x12, x13, x14, x15, x16, x17]) 24 (0, 0)) := by rw [hw, blk_setRow_other _ _ _ _ (by omega)]; exact bT8
        have bO8 : blk W8 (w.heap.size + 1) = some (.cells (cs .i64 [x0, x1, x2, x3, x4, x5, 0, 0, 0, 0, 0, 0, 0, 0, 0, 0, 0, 0]) 24 (0, 0)) := by rw [hw]; exact (blk_setRow_of bO0 _).trans rfl
        have lO := blk_lt bO8
        have L8 : Below w.heap.size w W8 := by rw [hw]; exact Rd.below_setRow LY (by omega) _
        clear hw cx cy bT8 bO0 LY
        refine PredT.region_of (W := W8) ((w.heap.size + 1)) (Nat.le_of_lt lO) [18, 21] [
            fun X => blk X (w.heap.size + 1) = some (.cells (cs .i64 [x0, x1, x2, x3, x4, x5, 0, 0, 0, 0, 0, 0, 0, 0, 0, 0, 0, 0]) 24 (0, 0)),
            fun X => blk X (w.heap.size + 1) = some (.cells (cs .i64 [x0 + 256 * i, x1, x2, x3, x4, x5, 0, 0, 0, 0, 0, 0, 0, 0, 0, 0, 0, 0]) 24 (0, 0)),
            fun X => blk X (w.heap.size + 1) = some (.cells (cs .i64 [x0 + 256 * i, x1 + 256 * k, x2, x3, x4, x5, 0, 0, 0, 0, 0, 0, 0, 0, 0, 0, 0, 0]) 24 (0, 0))] [
            PredT.At 0 (.int .i64 0),
            PredT.At 0 (.int .i64 0),
            PredT.At 0 (.int .i64 0),
            PredT.At 0 (.pointer (some ⟨w.heap.size, 0, none⟩)),
            PredT.At 0 (.pointer (some ⟨w.heap.size, 0, none⟩)),
            PredT.At 0 (.int .i64 x0),
            PredT.At 0 (.int .i64 i),
            PredT.At 0 (.int .i64 (256 * i)),
            PredT.At 0 (.int .i64 (x0 + 256 * i)),
            PredT.At 0 (.int .i64 0),
            PredT.At 0 (.pointer (some ⟨w.heap.size, 0, none⟩)),
            PredT.At 0 (.pointer (some ⟨w.heap.size, 1, none⟩)),
            PredT.At 0 (.int .i64 x1),
            PredT.At 0 (.int .i64 k),
            PredT.At 0 (.int .i64 (256 * k)),
            PredT.At 0 (.int .i64 (x1 + 256 * k)),
            PredT.At 0 (.pointer (some ⟨w.heap.size + 1, 0, none⟩)),
            PredT.At 0 (.pointer (some ⟨w.heap.size + 1, 0, none⟩)),
            PredT.At 0 (undef),
            PredT.At 0 (.pointer (some ⟨w.heap.size + 1, 0, none⟩)),
            PredT.At 0 (.pointer (some ⟨w.heap.size + 1, 1, none⟩)),
            PredT.At 0 (undef)] (by kernel_rfl) (by kernel_rfl) (by kernel_rfl) (by decide) (by decide) ?_ ?_ ?_ ?_ ?_ ?_
        · exact ⟨PredT.at_stab _ _ _ _, PredT.at_stab _ _ _ _, PredT.at_stab _ _ _ _, PredT.at_stab _ _ _ _, PredT.at_stab _ _ _ _, PredT.at_stab _ _ _ _, PredT.at_stab _ _ _ _, PredT.at_stab _ _ _ _, PredT.at_stab _ _ _ _, PredT.at_stab _ _ _ _, PredT.at_stab _ _ _ _, PredT.at_stab _ _ _ _, PredT.at_stab _ _ _ _, PredT.at_stab _ _ _ _, PredT.at_stab _ _ _ _, PredT.at_stab _ _ _ _, PredT.at_stab _ _ _ _, PredT.at_stab _ _ _ _, PredT.at_stab _ _ _ _, PredT.at_stab _ _ _ _, PredT.at_stab _ _ _ _, PredT.at_stab _ _ _ _, trivial⟩
        · intro q hq
          rcases List.mem_cons.1 hq with rfl | hq
          · exact fun X Y h hb => (hb.block _ (blk_lt h)).trans h
          rcases List.mem_cons.1 hq with rfl | hq
          · exact fun X Y h hb => (hb.block _ (blk_lt h)).trans h
          rcases List.mem_cons.1 hq with rfl | hq
          · exact fun X Y h hb => (hb.block _ (blk_lt h)).trans h
          cases hq
        · exact bO8
        · refine ⟨.inr ?_, .inr ?_, .inr ?_, .inr ?_, .inr ?_, .inr ?_, .inr ?_, .inr ?_, .inr ?_, .inr ?_, .inr ?_, .inr ?_, .inr ?_, .inr ?_, .inr ?_, .inr ?_, .inr ?_, .inr ?_, .inl rfl, .inr ?_, .inr ?_, .inl rfl, trivial⟩
          · intro b X p hE hd hn hS hV hI hF
            have r10 : b.tmps[10]?.getD undef = .int .i64 0 := (hn 10 (by kernel_rfl)).trans rfl
            exact Pred.yields_run (v := .int .i64 0) (Pred.wanted_none rfl) (by go_simp) ⟨Below.refl _ _, rfl, Nat.zero_le _⟩
          · intro b X p hE hd hn hS hV hI hF
            have r10 : b.tmps[10]?.getD undef = .int .i64 0 := (hn 10 (by kernel_rfl)).trans rfl
            exact Pred.yields_run (v := .int .i64 0) (Pred.wanted_none rfl) (by go_simp) ⟨Below.refl _ _, rfl, Nat.zero_le _⟩
          · intro b X p hE hd hn hS hV hI hF
            have r10 : b.tmps[10]?.getD undef = .int .i64 0 := (hn 10 (by kernel_rfl)).trans rfl
            exact Pred.yields_run (v := .int .i64 0) (Pred.wanted_none rfl) (by go_simp) ⟨Below.refl _ _, rfl, Nat.zero_le _⟩
          · intro b X p hE hd hn hS hV hI hF
            have r3 : b.tmps[3]?.getD undef = .pointer (some ⟨w.heap.size, 0, none⟩) := (hn 3 (by kernel_rfl)).trans rfl
            obtain ⟨r56, j56⟩ : PredT.At 0 (.int .i64 0) (b.tmps[56]?.getD undef) X p := hV 2 _ 56 rfl rfl (Pred.waits_near (by kernel_rfl) (by kernel_rfl))
            exact Pred.yields_run (v := .pointer (some ⟨w.heap.size, 0, none⟩)) (Pred.wanted_none rfl) (by go_simp) ⟨Below.refl _ _, rfl, Nat.zero_le _⟩
          · intro b X p hE hd hn hS hV hI hF
            obtain ⟨r57, j57⟩ : PredT.At 0 (.pointer (some ⟨w.heap.size, 0, none⟩)) (b.tmps[57]?.getD undef) X p := hV 3 _ 57 rfl rfl (Pred.waits_near (by kernel_rfl) (by kernel_rfl))
            exact Pred.yields_run (v := .pointer (some ⟨w.heap.size, 0, none⟩)) (Pred.wanted_none rfl) (by go_simp) ⟨Below.refl _ _, rfl, Nat.zero_le _⟩
          · intro b X p hE hd hn hS hV hI hF
            obtain ⟨r58, j58⟩ : PredT.At 0 (.pointer (some ⟨w.heap.size, 0, none⟩)) (b.tmps[58]?.getD undef) X p := hV 4 _ 58 rfl rfl (Pred.waits_near (by kernel_rfl) (by kernel_rfl))
            have q := (blk_below hE _ (Nat.lt_succ_self _)).trans bT
            have z : X.cell? ⟨w.heap.size, 0, none⟩ = some (.int .i64 x0) := by rw [blk_cell q]; rfl
            exact Pred.yields_run (v := .int .i64 x0) (Pred.wanted_none rfl) (by go_simp) ⟨Below.refl _ _, rfl, Nat.zero_le _⟩
          · intro b X p hE hd hn hS hV hI hF
            have r7 : b.tmps[7]?.getD undef = .int .i64 i := (hn 7 (by kernel_rfl)).trans rfl
            exact Pred.yields_run (v := .int .i64 i) (Pred.wanted_none rfl) (by go_simp) ⟨Below.refl _ _, rfl, Nat.zero_le _⟩
          · intro b X p hE hd hn hS hV hI hF
            obtain ⟨r60, j60⟩ : PredT.At 0 (.int .i64 i) (b.tmps[60]?.getD undef) X p := hV 6 _ 60 rfl rfl (Pred.waits_near (by kernel_rfl) (by kernel_rfl))
            exact Pred.yields_run (v := .int .i64 (256 * i)) (Pred.wanted_none rfl) (by go_simp; exact IntWalk.i64_in _ (by omega)) ⟨Below.refl _ _, rfl, Nat.zero_le _⟩
          · intro b X p hE hd hn hS hV hI hF
            obtain ⟨r59, j59⟩ : PredT.At 0 (.int .i64 x0) (b.tmps[59]?.getD undef) X p := hV 5 _ 59 rfl rfl (Pred.waits_near (by kernel_rfl) (by kernel_rfl))
            obtain ⟨r61, j61⟩ : PredT.At 0 (.int .i64 (256 * i)) (b.tmps[61]?.getD undef) X p := hV 7 _ 61 rfl rfl (Pred.waits_near (by kernel_rfl) (by kernel_rfl))
            exact Pred.yields_run (v := .int .i64 (x0 + 256 * i)) (Pred.wanted_none rfl) (by go_simp; exact IntWalk.i64_in _ (by omega)) ⟨Below.refl _ _, rfl, Nat.zero_le _⟩
          · intro b X p hE hd hn hS hV hI hF
            have r10 : b.tmps[10]?.getD undef = .int .i64 0 := (hn 10 (by kernel_rfl)).trans rfl
            exact Pred.yields_run (v := .int .i64 0) (Pred.wanted_none rfl) (by go_simp) ⟨Below.refl _ _, rfl, Nat.zero_le _⟩
          · intro b X p hE hd hn hS hV hI hF
            have r3 : b.tmps[3]?.getD undef = .pointer (some ⟨w.heap.size, 0, none⟩) := (hn 3 (by kernel_rfl)).trans rfl
            obtain ⟨r63, j63⟩ : PredT.At 0 (.int .i64 0) (b.tmps[63]?.getD undef) X p := hV 9 _ 63 rfl rfl (Pred.waits_near (by kernel_rfl) (by kernel_rfl))
            exact Pred.yields_run (v := .pointer (some ⟨w.heap.size, 0, none⟩)) (Pred.wanted_none rfl) (by go_simp) ⟨Below.refl _ _, rfl, Nat.zero_le _⟩
          · intro b X p hE hd hn hS hV hI hF
            obtain ⟨r64, j64⟩ : PredT.At 0 (.pointer (some ⟨w.heap.size, 0, none⟩)) (b.tmps[64]?.getD undef) X p := hV 10 _ 64 rfl rfl (Pred.waits_near (by kernel_rfl) (by kernel_rfl))
            exact Pred.yields_run (v := .pointer (some ⟨w.heap.size, 1, none⟩)) (Pred.wanted_none rfl) (by go_simp) ⟨Below.refl _ _, rfl, Nat.zero_le _⟩
          · intro b X p hE hd hn hS hV hI hF
            obtain ⟨r65, j65⟩ : PredT.At 0 (.pointer (some ⟨w.heap.size, 1, none⟩)) (b.tmps[65]?.getD undef) X p := hV 11 _ 65 rfl rfl (Pred.waits_near (by kernel_rfl) (by kernel_rfl))
            have q := (blk_below hE _ (Nat.lt_succ_self _)).trans bT
            have z : X.cell? ⟨w.heap.size, 1, none⟩ = some (.int .i64 x1) := by rw [blk_cell q]; rfl
            exact Pred.yields_run (v := .int .i64 x1) (Pred.wanted_none rfl) (by go_simp) ⟨Below.refl _ _, rfl, Nat.zero_le _⟩
          · intro b X p hE hd hn hS hV hI hF
            have r8 : b.tmps[8]?.getD undef = .int .i64 k := (hn 8 (by kernel_rfl)).trans rfl
            exact Pred.yields_run (v := .int .i64 k) (Pred.wanted_none rfl) (by go_simp) ⟨Below.refl _ _, rfl, Nat.zero_le _⟩
          · intro b X p hE hd hn hS hV hI hF
            obtain ⟨r67, j67⟩ : PredT.At 0 (.int .i64 k) (b.tmps[67]?.getD undef) X p := hV 13 _ 67 rfl rfl (Pred.waits_near (by kernel_rfl) (by kernel_rfl))
            exact Pred.yields_run (v := .int .i64 (256 * k)) (Pred.wanted_none rfl) (by go_simp; exact IntWalk.i64_in _ (by omega)) ⟨Below.refl _ _, rfl, Nat.zero_le _⟩
          · intro b X p hE hd hn hS hV hI hF
            obtain ⟨r66, j66⟩ : PredT.At 0 (.int .i64 x1) (b.tmps[66]?.getD undef) X p := hV 12 _ 66 rfl rfl (Pred.waits_near (by kernel_rfl) (by kernel_rfl))
            obtain ⟨r68, j68⟩ : PredT.At 0 (.int .i64 (256 * k)) (b.tmps[68]?.getD undef) X p := hV 14 _ 68 rfl rfl (Pred.waits_near (by kernel_rfl) (by kernel_rfl))
            exact Pred.yields_run (v := .int .i64 (x1 + 256 * k)) (Pred.wanted_none rfl) (by go_simp; exact IntWalk.i64_in _ (by omega)) ⟨Below.refl _ _, rfl, Nat.zero_le _⟩
          · intro b X p hE hd hn hS hV hI hF
            have r9 : b.tmps[9]?.getD undef = .pointer (some ⟨w.heap.size + 1, 0, none⟩) := (hn 9 (by kernel_rfl)).trans rfl
            obtain ⟨r54, j54⟩ : PredT.At 0 (.int .i64 0) (b.tmps[54]?.getD undef) X p := hV 0 _ 54 rfl rfl (Pred.waits_near (by kernel_rfl) (by kernel_rfl))
            exact Pred.yields_run (v := .pointer (some ⟨w.heap.size + 1, 0, none⟩)) (Pred.wanted_none rfl) (by go_simp) ⟨Below.refl _ _, rfl, Nat.zero_le _⟩
          · intro b X p hE hd hn hS hV hI hF
            obtain ⟨r70, j70⟩ : PredT.At 0 (.pointer (some ⟨w.heap.size + 1, 0, none⟩)) (b.tmps[70]?.getD undef) X p := hV 16 _ 70 rfl rfl (Pred.waits_near (by kernel_rfl) (by kernel_rfl))
            exact Pred.yields_run (v := .pointer (some ⟨w.heap.size + 1, 0, none⟩)) (Pred.wanted_none rfl) (by go_simp) ⟨Below.refl _ _, rfl, Nat.zero_le _⟩
          · intro b X p hE hd hn hS hV hI hF
            have r9 : b.tmps[9]?.getD undef = .pointer (some ⟨w.heap.size + 1, 0, none⟩) := (hn 9 (by kernel_rfl)).trans rfl
            obtain ⟨r55, j55⟩ : PredT.At 0 (.int .i64 0) (b.tmps[55]?.getD undef) X p := hV 1 _ 55 rfl rfl (Pred.waits_near (by kernel_rfl) (by kernel_rfl))
            exact Pred.yields_run (v := .pointer (some ⟨w.heap.size + 1, 0, none⟩)) (Pred.wanted_none rfl) (by go_simp) ⟨Below.refl _ _, rfl, Nat.zero_le _⟩
          · intro b X p hE hd hn hS hV hI hF
            obtain ⟨r72, j72⟩ : PredT.At 0 (.pointer (some ⟨w.heap.size + 1, 0, none⟩)) (b.tmps[72]?.getD undef) X p := hV 19 _ 72 rfl rfl (Pred.waits_near (by kernel_rfl) (by kernel_rfl))
            exact Pred.yields_run (v := .pointer (some ⟨w.heap.size + 1, 1, none⟩)) (Pred.wanted_none rfl) (by go_simp) ⟨Below.refl _ _, rfl, Nat.zero_le _⟩
        · refine ⟨?_, ?_, trivial⟩
          · refine ⟨_, rfl, fun k hk => (by cases hk), fun b X hE hd hn hS hV hI => ?_⟩
            obtain ⟨r71, j71⟩ : PredT.At 0 (.pointer (some ⟨w.heap.size + 1, 0, none⟩)) (b.tmps[71]?.getD undef) X 0 := hV 17 _ 71 rfl rfl (Pred.waits_near (by kernel_rfl) (by kernel_rfl))
            obtain ⟨r62, j62⟩ : PredT.At 0 (.int .i64 (x0 + 256 * i)) (b.tmps[62]?.getD undef) X 0 := hV 8 _ 62 rfl rfl (Pred.waits_near (by kernel_rfl) (by kernel_rfl))
            replace hS : (fun X => blk X (w.heap.size + 1) = some (.cells (cs .i64 [x0, x1, x2, x3, x4, x5, 0, 0, 0, 0, 0, 0, 0, 0, 0, 0, 0, 0]) 24 (0, 0))) X := hS
            replace hS : blk X (w.heap.size + 1) = some (.cells (cs .i64 [x0, x1, x2, x3, x4, x5, 0, 0, 0, 0, 0, 0, 0, 0, 0, 0, 0, 0]) 24 (0, 0)) := hS
            have f0 := blk_frozen hS 0
            have cz : X.cell? ⟨w.heap.size + 1, 0, none⟩ = some (.int .i64 x0) := by rw [blk_cell hS]; rfl
            exact PredS.yields_skip (w' := X.setCell ⟨w.heap.size + 1, 0, none⟩ (.int .i64 (x0 + 256 * i))) (Pred.wanted_none rfl) (by go_simp) ⟨below_far X _ _ _, (blk_set X (w.heap.size + 1) 0 _ _ _ hS).trans rfl, rfl, Nat.zero_le _⟩
          · refine ⟨_, rfl, fun k hk => (by cases hk; exact Pred.waits_near (by kernel_rfl) (by kernel_rfl)), fun b X hE hd hn hS hV hI => ?_⟩
            obtain ⟨r73, j73⟩ : PredT.At 0 (.pointer (some ⟨w.heap.size + 1, 1, none⟩)) (b.tmps[73]?.getD undef) X 1 := hV 20 _ 73 rfl rfl (Pred.waits_near (by kernel_rfl) (by kernel_rfl))
            obtain ⟨r69, j69⟩ : PredT.At 0 (.int .i64 (x1 + 256 * k)) (b.tmps[69]?.getD undef) X 1 := hV 15 _ 69 rfl rfl (Pred.waits_near (by kernel_rfl) (by kernel_rfl))
            replace hS : (fun X => blk X (w.heap.size + 1) = some (.cells (cs .i64 [x0 + 256 * i, x1, x2, x3, x4, x5, 0, 0, 0, 0, 0, 0, 0, 0, 0, 0, 0, 0]) 24 (0, 0))) X := hS
            replace hS : blk X (w.heap.size + 1) = some (.cells (cs .i64 [x0 + 256 * i, x1, x2, x3, x4, x5, 0, 0, 0, 0, 0, 0, 0, 0, 0, 0, 0, 0]) 24 (0, 0)) := hS
            have f0 := blk_frozen hS 1
            have cz : X.cell? ⟨w.heap.size + 1, 1, none⟩ = some (.int .i64 x1) := by rw [blk_cell hS]; rfl
            exact PredS.yields_skip (w' := X.setCell ⟨w.heap.size + 1, 1, none⟩ (.int .i64 (x1 + 256 * k))) (Pred.wanted_none rfl) (by go_simp) ⟨below_far X _ _ _, (blk_set X (w.heap.size + 1) 1 _ _ _ hS).trans rfl, rfl, Nat.zero_le _⟩
        intro v W9 hE hS hv
        replace hS : (fun X => blk X (w.heap.size + 1) = some (.cells (cs .i64 [x0 + 256 * i, x1 + 256 * k, x2, x3, x4, x5, 0, 0, 0, 0, 0, 0, 0, 0, 0, 0, 0, 0]) 24 (0, 0))) W9 := hS
        have e0 : v 0 = .int .i64 0 := (hv 0 _ 54 rfl rfl).1
        have e1 : v 1 = .int .i64 0 := (hv 1 _ 55 rfl rfl).1
        have e2 : v 2 = .int .i64 0 := (hv 2 _ 56 rfl rfl).1
        have e3 : v 3 = .pointer (some ⟨w.heap.size, 0, none⟩) := (hv 3 _ 57 rfl rfl).1
        have e4 : v 4 = .pointer (some ⟨w.heap.size, 0, none⟩) := (hv 4 _ 58 rfl rfl).1
        have e5 : v 5 = .int .i64 x0 := (hv 5 _ 59 rfl rfl).1
        have e6 : v 6 = .int .i64 i := (hv 6 _ 60 rfl rfl).1
        have e7 : v 7 = .int .i64 (256 * i) := (hv 7 _ 61 rfl rfl).1
        have e8 : v 8 = .int .i64 (x0 + 256 * i) := (hv 8 _ 62 rfl rfl).1
        have e9 : v 9 = .int .i64 0 := (hv 9 _ 63 rfl rfl).1
        have e10 : v 10 = .pointer (some ⟨w.heap.size, 0, none⟩) := (hv 10 _ 64 rfl rfl).1
        have e11 : v 11 = .pointer (some ⟨w.heap.size, 1, none⟩) := (hv 11 _ 65 rfl rfl).1
        have e12 : v 12 = .int .i64 x1 := (hv 12 _ 66 rfl rfl).1
        have e13 : v 13 = .int .i64 k := (hv 13 _ 67 rfl rfl).1
        have e14 : v 14 = .int .i64 (256 * k) := (hv 14 _ 68 rfl rfl).1
        have e15 : v 15 = .int .i64 (x1 + 256 * k) := (hv 15 _ 69 rfl rfl).1
        have e16 : v 16 = .pointer (some ⟨w.heap.size + 1, 0, none⟩) := (hv 16 _ 70 rfl rfl).1
        have e17 : v 17 = .pointer (some ⟨w.heap.size + 1, 0, none⟩) := (hv 17 _ 71 rfl rfl).1
        have e19 : v 19 = .pointer (some ⟨w.heap.size + 1, 0, none⟩) := (hv 19 _ 72 rfl rfl).1
        have e20 : v 20 = .pointer (some ⟨w.heap.size + 1, 1, none⟩) := (hv 20 _ 73 rfl rfl).1
        simp only [Pred.putsF_cons, Pred.putsF_nil, Nat.zero_add, Nat.reduceAdd, e0, e1, e2, e3, e4, e5, e6, e7, e8, e9, e10, e11, e12, e13, e14, e15, e16, e17, e19, e20, Act.put, List.setIfInBounds_toArray, List.set_cons_zero, List.set_cons_succ]
        clear e0 e1 e2 e3 e4 e5 e6 e7 e8 e9 e10 e11 e12 e13 e14 e15 e16 e17 e19 e20 hv
        have bTn : blk W9 w.heap.size = some (.cells (cs .i64 [x0, x1, x2, x3, x4, x5, x6, x7, x8, x9, x10, x11, x12, x13, x14, x15, x16, x17]) 24 (0, 0)) := (blk_below hE _ (Nat.lt_succ_self _)).trans bT
        have bOn : blk W9 (w.heap.size + 1) = some (.cells (cs .i64 (oK x0 x1 x2 x3 x4 x5 x6 x7 x8 x9 x10 x11 x12 x13 x14 x15 x16 x17 i k 1)) 24 (0, 0)) := hS
        have L9 : Below w.heap.size w W9 := L8.trans (hE.mono (by omega))
        clear hE hS bT bO8 L8 lO
        go_wp2
        exact ⟨⟨1, by omega, by go_num, FY, bTn, bOn, L9⟩, by simp [intOf]⟩
      · have FK : lowK [x0, x1, x2, x3, x4, x5, x6, x7, x8, x9, x10, x11, x12, x13, x14, x15, x16, x17] 1 = lowB x6 x7 := rfl
        have bT8 : blk Y w.heap.size = some (.cells (cs .i64 [x0, x1, x2, x3, x4, x5, x6, x7, x8, x9, x10, x11, x12, x13, x14, x15, x16, x17]) 24 (0, 0)) := BT
        have bO0 : blk Y (w.heap.size + 1) = some (.cells (cs .i64 [x0 + 256 * i, x1 + 256 * k, x2, x3, x4, x5, 0, 0, 0, 0, 0, 0, 0, 0, 0, 0, 0, 0]) 24 (0, 0)) := BO
        have cx : Y.cell? ⟨w.heap.size, 6, none⟩ = some (.int .i64 x6) := by rw [blk_cell bT8]; rfl
        have cy : Y.cell? ⟨w.heap.size, 7, none⟩ = some (.int .i64 x7) := by rw [blk_cell bT8]; rfl
        clear BT BO
        by_cases h0 : x6 < 0
        · have d0 : decide (x6 < 0) = true := decide_eq_true h0
          clear FK h0
          go_wp2_with fail
          refine (awake_any _).mono ?_
          rintro e w6 ⟨rfl, hb6⟩
          have L6 : Below w.heap.size w w6 := LY.trans (hb6.mono LY.size)
          clear hb6
          go_wp2
          go_ret
          exact ⟨rfl, L6⟩
        have d0 : decide (x6 < 0) = false := decide_eq_false h0
        by_cases h1 : 5120 < x6
        · have d1 : decide (5120 < x6) = true := decide_eq_true h1
          clear FK h1
          go_wp2_with fail
          refine (awake_any _).mono ?_
          rintro e w6 ⟨rfl, hb6⟩
          have L6 : Below w.heap.size w w6 := LY.trans (hb6.mono LY.size)
          clear hb6
          go_wp2
          go_ret
          exact ⟨rfl, L6⟩
        have d1 : decide (5120 < x6) = false := decide_eq_false h1
        by_cases h2 : x7 < 0
        · have d2 : decide (x7 < 0) = true := decide_eq_true h2
          clear FK h2
          go_wp2_with fail
          refine (awake_any _).mono ?_
          rintro e w6 ⟨rfl, hb6⟩
          have L6 : Below w.heap.size w w6 := LY.trans (hb6.mono LY.size)
          clear hb6
          go_wp2
          go_ret
          exact ⟨rfl, L6⟩
        have d2 : decide (x7 < 0) = false := decide_eq_false h2
        by_cases h3 : 5120 < x7
        · have d3 : decide (5120 < x7) = true := decide_eq_true h3
          clear FK h3
          go_wp2_with fail
          refine (awake_any _).mono ?_
          rintro e w6 ⟨rfl, hb6⟩
          have L6 : Below w.heap.size w w6 := LY.trans (hb6.mono LY.size)
          clear hb6
          go_wp2
          go_ret
          exact ⟨rfl, L6⟩
        have d3 : decide (5120 < x7) = false := decide_eq_false h3
        have FY := Lib.hid (l_step HF.out (FK.trans (decide_eq_true (by omega))))
        clear FK
        go_upto_region 9 with (fail)
        refine Rd.name_world ?_
        intro W8 hw
        have bT : blk W8 w.heap.size = some (.cells (cs .i64 [x0, x1, x2, x3, x4, x5, x6, x7, x8, x9, x10, x11, x12, x13, x14, x15, x16, x17]) 24 (0, 0)) := by rw [hw, blk_setRow_other _ _ _ _ (by omega)]; exact bT8
        have bO8 : blk W8 (w.heap.size + 1) = some (.cells (cs .i64 [x0 + 256 * i, x1 + 256 * k, x2, x3, x4, x5, x6, x7, x8, x9, x10, x11, 0, 0, 0, 0, 0, 0]) 24 (0, 0)) := by rw [hw]; exact (blk_setRow_of bO0 _).trans rfl
        have lO := blk_lt bO8
        have L8 : Below w.heap.size w W8 := by rw [hw]; exact Rd.below_setRow LY (by omega) _
        clear hw cx cy bT8 bO0 LY
        refine PredT.region_of (W := W8) ((w.heap.size + 1)) (Nat.le_of_lt lO) [18, 21] [
            fun X => blk X (w.heap.size + 1) = some (.cells (cs .i64 [x0 + 256 * i, x1 + 256 * k, x2, x3, x4, x5, x6, x7, x8, x9, x10, x11, 0, 0, 0, 0, 0, 0]) 24 (0, 0)),
            fun X => blk X (w.heap.size + 1) = some (.cells (cs .i64 [x0 + 256 * i, x1 + 256 * k, x2, x3, x4, x5, x6 + 256 * i, x7, x8, x9, x10, x11, 0, 0, 0, 0, 0, 0]) 24 (0, 0)),
            fun X => blk X (w.heap.size + 1) = some (.cells (cs .i64 [x0 + 256 * i, x1 + 256 * k, x2, x3, x4, x5, x6 + 256 * i, x7 + 256 * k, x8, x9, x10, x11, 0, 0, 0, 0, 0, 0]) 24 (0, 0))] [
            PredT.At 0 (.int .i64 1),
            PredT.At 0 (.int .i64 1),
            PredT.At 0 (.int .i64 1),
            PredT.At 0 (.pointer (some ⟨w.heap.size, 6, none⟩)),
            PredT.At 0 (.pointer (some ⟨w.heap.size, 6, none⟩)),
            PredT.At 0 (.int .i64 x6),
            PredT.At 0 (.int .i64 i),
            PredT.At 0 (.int .i64 (256 * i)),
            PredT.At 0 (.int .i64 (x6 + 256 * i)),
            PredT.At 0 (.int .i64 1),
            PredT.At 0 (.pointer (some ⟨w.heap.size, 6, none⟩)),
            PredT.At 0 (.pointer (some ⟨w.heap.size, 7, none⟩)),
            PredT.At 0 (.int .i64 x7),
            PredT.At 0 (.int .i64 k),
            PredT.At 0 (.int .i64 (256 * k)),
            PredT.At 0 (.int .i64 (x7 + 256 * k)),
            PredT.At 0 (.pointer (some ⟨w.heap.size + 1, 6, none⟩)),
            PredT.At 0 (.pointer (some ⟨w.heap.size + 1, 6, none⟩)),
            PredT.At 0 (undef),
            PredT.At 0 (.pointer (some ⟨w.heap.size + 1, 6, none⟩)),
            PredT.At 0 (.pointer (some ⟨w.heap.size + 1, 7, none⟩)),
            PredT.At 0 (undef)] (by kernel_rfl) (by kernel_rfl) (by kernel_rfl) (by decide) (by decide) ?_ ?_ ?_ ?_ ?_ ?_
        · exact ⟨PredT.at_stab _ _ _ _, PredT.at_stab _ _ _ _, PredT.at_stab _ _ _ _, PredT.at_stab _ _ _ _, PredT.at_stab _ _ _ _, PredT.at_stab _ _ _ _, PredT.at_stab _ _ _ _, PredT.at_stab _ _ _ _, PredT.at_stab _ _ _ _, PredT.at_stab _ _ _ _, PredT.at_stab _ _ _ _, PredT.at_stab _ _ _ _, PredT.at_stab _ _ _ _, PredT.at_stab _ _ _ _, PredT.at_stab _ _ _ _, PredT.at_stab _ _ _ _, PredT.at_stab _ _ _ _, PredT.at_stab _ _ _ _, PredT.at_stab _ _ _ _, PredT.at_stab _ _ _ _, PredT.at_stab _ _ _ _, PredT.at_stab _ _ _ _, trivial⟩
        · intro q hq
          rcases List.mem_cons.1 hq with rfl | hq
          · exact fun X Y h hb => (hb.block _ (blk_lt h)).trans h
          rcases List.mem_cons.1 hq with rfl | hq
          · exact fun X Y h hb => (hb.block _ (blk_lt h)).trans h
          rcases List.mem_cons.1 hq with rfl | hq
          · exact fun X Y h hb => (hb.block _ (blk_lt h)).trans h
          cases hq
        · exact bO8
        · refine ⟨.inr ?_, .inr ?_, .inr ?_, .inr ?_, .inr ?_, .inr ?_, .inr ?_, .inr ?_, .inr ?_, .inr ?_, .inr ?_, .inr ?_, .inr ?_, .inr ?_, .inr ?_, .inr ?_, .inr ?_, .inr ?_, .inl rfl, .inr ?_, .inr ?_, .inl rfl, trivial⟩
          · intro b X p hE hd hn hS hV hI hF
            have r10 : b.tmps[10]?.getD undef = .int .i64 1 := (hn 10 (by kernel_rfl)).trans rfl
            exact Pred.yields_run (v := .int .i64 1) (Pred.wanted_none rfl) (by go_simp) ⟨Below.refl _ _, rfl, Nat.zero_le _⟩
          · intro b X p hE hd hn hS hV hI hF
            have r10 : b.tmps[10]?.getD undef = .int .i64 1 := (hn 10 (by kernel_rfl)).trans rfl
            exact Pred.yields_run (v := .int .i64 1) (Pred.wanted_none rfl) (by go_simp) ⟨Below.refl _ _, rfl, Nat.zero_le _⟩
          · intro b X p hE hd hn hS hV hI hF
            have r10 : b.tmps[10]?.getD undef = .int .i64 1 := (hn 10 (by kernel_rfl)).trans rfl
            exact Pred.yields_run (v := .int .i64 1) (Pred.wanted_none rfl) (by go_simp) ⟨Below.refl _ _, rfl, Nat.zero_le _⟩
          · intro b X p hE hd hn hS hV hI hF
            have r3 : b.tmps[3]?.getD undef = .pointer (some ⟨w.heap.size, 0, none⟩) := (hn 3 (by kernel_rfl)).trans rfl
            obtain ⟨r56, j56⟩ : PredT.At 0 (.int .i64 1) (b.tmps[56]?.getD undef) X p := hV 2 _ 56 rfl rfl (Pred.waits_near (by kernel_rfl) (by kernel_rfl))
            exact Pred.yields_run (v := .pointer (some ⟨w.heap.size, 6, none⟩)) (Pred.wanted_none rfl) (by go_simp) ⟨Below.refl _ _, rfl, Nat.zero_le _⟩
          · intro b X p hE hd hn hS hV hI hF
            obtain ⟨r57, j57⟩ : PredT.At 0 (.pointer (some ⟨w.heap.size, 6, none⟩)) (b.tmps[57]?.getD undef) X p := hV 3 _ 57 rfl rfl (Pred.waits_near (by kernel_rfl) (by kernel_rfl))
            exact Pred.yields_run (v := .pointer (some ⟨w.heap.size, 6, none⟩)) (Pred.wanted_none rfl) (by go_simp) ⟨Below.refl _ _, rfl, Nat.zero_le _⟩
          · intro b X p hE hd hn hS hV hI hF
            obtain ⟨r58, j58⟩ : PredT.At 0 (.pointer (some ⟨w.heap.size, 6, none⟩)) (b.tmps[58]?.getD undef) X p := hV 4 _ 58 rfl rfl (Pred.waits_near (by kernel_rfl) (by kernel_rfl))
            have q := (blk_below hE _ (Nat.lt_succ_self _)).trans bT
            have z : X.cell? ⟨w.heap.size, 6, none⟩ = some (.int .i64 x6) := by rw [blk_cell q]; rfl
            exact Pred.yields_run (v := .int .i64 x6) (Pred.wanted_none rfl) (by go_simp) ⟨Below.refl _ _, rfl, Nat.zero_le _⟩
          · intro b X p hE hd hn hS hV hI hF
            have r7 : b.tmps[7]?.getD undef = .int .i64 i := (hn 7 (by kernel_rfl)).trans rfl
            exact Pred.yields_run (v := .int .i64 i) (Pred.wanted_none rfl) (by go_simp) ⟨Below.refl _ _, rfl, Nat.zero_le _⟩
          · intro b X p hE hd hn hS hV hI hF
            obtain ⟨r60, j60⟩ : PredT.At 0 (.int .i64 i) (b.tmps[60]?.getD undef) X p := hV 6 _ 60 rfl rfl (Pred.waits_near (by kernel_rfl) (by kernel_rfl))
            exact Pred.yields_run (v := .int .i64 (256 * i)) (Pred.wanted_none rfl) (by go_simp; exact IntWalk.i64_in _ (by omega)) ⟨Below.refl _ _, rfl, Nat.zero_le _⟩
          · intro b X p hE hd hn hS hV hI hF
            obtain ⟨r59, j59⟩ : PredT.At 0 (.int .i64 x6) (b.tmps[59]?.getD undef) X p := hV 5 _ 59 rfl rfl (Pred.waits_near (by kernel_rfl) (by kernel_rfl))
            obtain ⟨r61, j61⟩ : PredT.At 0 (.int .i64 (256 * i)) (b.tmps[61]?.getD undef) X p := hV 7 _ 61 rfl rfl (Pred.waits_near (by kernel_rfl) (by kernel_rfl))
            exact Pred.yields_run (v := .int .i64 (x6 + 256 * i)) (Pred.wanted_none rfl) (by go_simp; exact IntWalk.i64_in _ (by omega)) ⟨Below.refl _ _, rfl, Nat.zero_le _⟩
          · intro b X p hE hd hn hS hV hI hF
            have r10 : b.tmps[10]?.getD undef = .int .i64 1 := (hn 10 (by kernel_rfl)).trans rfl
            exact Pred.yields_run (v := .int .i64 1) (Pred.wanted_none rfl) (by go_simp) ⟨Below.refl _ _, rfl, Nat.zero_le _⟩
          · intro b X p hE hd hn hS hV hI hF
            have r3 : b.tmps[3]?.getD undef = .pointer (some ⟨w.heap.size, 0, none⟩) := (hn 3 (by kernel_rfl)).trans rfl
            obtain ⟨r63, j63⟩ : PredT.At 0 (.int .i64 1) (b.tmps[63]?.getD undef) X p := hV 9 _ 63 rfl rfl (Pred.waits_near (by kernel_rfl) (by kernel_rfl))
            exact Pred.yields_run (v := .pointer (some ⟨w.heap.size, 6, none⟩)) (Pred.wanted_none rfl) (by go_simp) ⟨Below.refl _ _, rfl, Nat.zero_le _⟩
          · intro b X p hE hd hn hS hV hI hF
            obtain ⟨r64, j64⟩ : PredT.At 0 (.pointer (some ⟨w.heap.size, 6, none⟩)) (b.tmps[64]?.getD undef) X p := hV 10 _ 64 rfl rfl (Pred.waits_near (by kernel_rfl) (by kernel_rfl))
            exact Pred.yields_run (v := .pointer (some ⟨w.heap.size, 7, none⟩)) (Pred.wanted_none rfl) (by go_simp) ⟨Below.refl _ _, rfl, Nat.zero_le _⟩
          · intro b X p hE hd hn hS hV hI hF
            obtain ⟨r65, j65⟩ : PredT.At 0 (.pointer (some ⟨w.heap.size, 7, none⟩)) (b.tmps[65]?.getD undef) X p := hV 11 _ 65 rfl rfl (Pred.waits_near (by kernel_rfl) (by kernel_rfl))
            have q := (blk_below hE _ (Nat.lt_succ_self _)).trans bT
            have z : X.cell? ⟨w.heap.size, 7, none⟩ = some (.int .i64 x7) := by rw [blk_cell q]; rfl
            exact Pred.yields_run (v := .int .i64 x7) (Pred.wanted_none rfl) (by go_simp) ⟨Below.refl _ _, rfl, Nat.zero_le _⟩
          · intro b X p hE hd hn hS hV hI hF
            have r8 : b.tmps[8]?.getD undef = .int .i64 k := (hn 8 (by kernel_rfl)).trans rfl
            exact Pred.yields_run (v := .int .i64 k) (Pred.wanted_none rfl) (by go_simp) ⟨Below.refl _ _, rfl, Nat.zero_le _⟩
          · intro b X p hE hd hn hS hV hI hF
            obtain ⟨r67, j67⟩ : PredT.At 0 (.int .i64 k) (b.tmps[67]?.getD undef) X p := hV 13 _ 67 rfl rfl (Pred.waits_near (by kernel_rfl) (by kernel_rfl))
            exact Pred.yields_run (v := .int .i64 (256 * k)) (Pred.wanted_none rfl) (by go_simp; exact IntWalk.i64_in _ (by omega)) ⟨Below.refl _ _, rfl, Nat.zero_le _⟩
          · intro b X p hE hd hn hS hV hI hF
            obtain ⟨r66, j66⟩ : PredT.At 0 (.int .i64 x7) (b.tmps[66]?.getD undef) X p := hV 12 _ 66 rfl rfl (Pred.waits_near (by kernel_rfl) (by kernel_rfl))
            obtain ⟨r68, j68⟩ : PredT.At 0 (.int .i64 (256 * k)) (b.tmps[68]?.getD undef) X p := hV 14 _ 68 rfl rfl (Pred.waits_near (by kernel_rfl) (by kernel_rfl))
            exact Pred.yields_run (v := .int .i64 (x7 + 256 * k)) (Pred.wanted_none rfl) (by go_simp; exact IntWalk.i64_in _ (by omega)) ⟨Below.refl _ _, rfl, Nat.zero_le _⟩
          · intro b X p hE hd hn hS hV hI hF
            have r9 : b.tmps[9]?.getD undef = .pointer (some ⟨w.heap.size + 1, 0, none⟩) := (hn 9 (by kernel_rfl)).trans rfl
            obtain ⟨r54, j54⟩ : PredT.At 0 (.int .i64 1) (b.tmps[54]?.getD undef) X p := hV 0 _ 54 rfl rfl (Pred.waits_near (by kernel_rfl) (by kernel_rfl))
            exact Pred.yields_run (v := .pointer (some ⟨w.heap.size + 1, 6, none⟩)) (Pred.wanted_none rfl) (by go_simp) ⟨Below.refl _ _, rfl, Nat.zero_le _⟩
          · intro b X p hE hd hn hS hV hI hF
            obtain ⟨r70, j70⟩ : PredT.At 0 (.pointer (some ⟨w.heap.size + 1, 6, none⟩)) (b.tmps[70]?.getD undef) X p := hV 16 _ 70 rfl rfl (Pred.waits_near (by kernel_rfl) (by kernel_rfl))
            exact Pred.yields_run (v := .pointer (some ⟨w.heap.size + 1, 6, none⟩)) (Pred.wanted_none rfl) (by go_simp) ⟨Below.refl _ _, rfl, Nat.zero_le _⟩
          · intro b X p hE hd hn hS hV hI hF
            have r9 : b.tmps[9]?.getD undef = .pointer (some ⟨w.heap.size + 1, 0, none⟩) := (hn 9 (by kernel_rfl)).trans rfl
            obtain ⟨r55, j55⟩ : PredT.At 0 (.int .i64 1) (b.tmps[55]?.getD undef) X p := hV 1 _ 55 rfl rfl (Pred.waits_near (by kernel_rfl) (by kernel_rfl))
            exact Pred.yields_run (v := .pointer (some ⟨w.heap.size + 1, 6, none⟩)) (Pred.wanted_none rfl) (by go_simp) ⟨Below.refl _ _, rfl, Nat.zero_le _⟩
          · intro b X p hE hd hn hS hV hI hF
            obtain ⟨r72, j72⟩ : PredT.At 0 (.pointer (some ⟨w.heap.size + 1, 6, none⟩)) (b.tmps[72]?.getD undef) X p := hV 19 _ 72 rfl rfl (Pred.waits_near (by kernel_rfl) (by kernel_rfl))
            exact Pred.yields_run (v := .pointer (some ⟨w.heap.size + 1, 7, none⟩)) (Pred.wanted_none rfl) (by go_simp) ⟨Below.refl _ _, rfl, Nat.zero_le _⟩
        · refine ⟨?_, ?_, trivial⟩
          · refine ⟨_, rfl, fun k hk => (by cases hk), fun b X hE hd hn hS hV hI => ?_⟩
            obtain ⟨r71, j71⟩ : PredT.At 0 (.pointer (some ⟨w.heap.size + 1, 6, none⟩)) (b.tmps[71]?.getD undef) X 0 := hV 17 _ 71 rfl rfl (Pred.waits_near (by kernel_rfl) (by kernel_rfl))
            obtain ⟨r62, j62⟩ : PredT.At 0 (.int .i64 (x6 + 256 * i)) (b.tmps[62]?.getD undef) X 0 := hV 8 _ 62 rfl rfl (Pred.waits_near (by kernel_rfl) (by kernel_rfl))
            replace hS : (fun X => blk X (w.heap.size + 1) = some (.cells (cs .i64 [x0 + 256 * i, x1 + 256 * k, x2, x3, x4, x5, x6, x7, x8, x9, x10, x11, 0, 0, 0, 0, 0, 0]) 24 (0, 0))) X := hS
            replace hS : blk X (w.heap.size + 1) = some (.cells (cs .i64 [x0 + 256 * i, x1 + 256 * k, x2, x3, x4, x5, x6, x7, x8, x9, x10, x11, 0, 0, 0, 0, 0, 0]) 24 (0, 0)) := hS
            have f0 := blk_frozen hS 6
            have cz : X.cell? ⟨w.heap.size + 1, 6, none⟩ = some (.int .i64 x6) := by rw [blk_cell hS]; rfl
            exact PredS.yields_skip (w' := X.setCell ⟨w.heap.size + 1, 6, none⟩ (.int .i64 (x6 + 256 * i))) (Pred.wanted_none rfl) (by go_simp) ⟨below_far X _ _ _, (blk_set X (w.heap.size + 1) 6 _ _ _ hS).trans rfl, rfl, Nat.zero_le _⟩
          · refine ⟨_, rfl, fun k hk => (by cases hk; exact Pred.waits_near (by kernel_rfl) (by kernel_rfl)), fun b X hE hd hn hS hV hI => ?_⟩
            obtain ⟨r73, j73⟩ : PredT.At 0 (.pointer (some ⟨w.heap.size + 1, 7, none⟩)) (b.tmps[73]?.getD undef) X 1 := hV 20 _ 73 rfl rfl (Pred.waits_near (by kernel_rfl) (by kernel_rfl))
            obtain ⟨r69, j69⟩ : PredT.At 0 (.int .i64 (x7 + 256 * k)) (b.tmps[69]?.getD undef) X 1 := hV 15 _ 69 rfl rfl (Pred.waits_near (by kernel_rfl) (by kernel_rfl))
            replace hS : (fun X => blk X (w.heap.size + 1) = some (.cells (cs .i64 [x0 + 256 * i, x1 + 256 * k, x2, x3, x4, x5, x6 + 256 * i, x7, x8, x9, x10, x11, 0, 0, 0, 0, 0, 0]) 24 (0, 0))) X := hS
            replace hS : blk X (w.heap.size + 1) = some (.cells (cs .i64 [x0 + 256 * i, x1 + 256 * k, x2, x3, x4, x5, x6 + 256 * i, x7, x8, x9, x10, x11, 0, 0, 0, 0, 0, 0]) 24 (0, 0)) := hS
            have f0 := blk_frozen hS 7
            have cz : X.cell? ⟨w.heap.size + 1, 7, none⟩ = some (.int .i64 x7) := by rw [blk_cell hS]; rfl
            exact PredS.yields_skip (w' := X.setCell ⟨w.heap.size + 1, 7, none⟩ (.int .i64 (x7 + 256 * k))) (Pred.wanted_none rfl) (by go_simp) ⟨below_far X _ _ _, (blk_set X (w.heap.size + 1) 7 _ _ _ hS).trans rfl, rfl, Nat.zero_le _⟩
        intro v W9 hE hS hv
        replace hS : (fun X => blk X (w.heap.size + 1) = some (.cells (cs .i64 [x0 + 256 * i, x1 + 256 * k, x2, x3, x4, x5, x6 + 256 * i, x7 + 256 * k, x8, x9, x10, x11, 0, 0, 0, 0, 0, 0]) 24 (0, 0))) W9 := hS
        have e0 : v 0 = .int .i64 1 := (hv 0 _ 54 rfl rfl).1
        have e1 : v 1 = .int .i64 1 := (hv 1 _ 55 rfl rfl).1
        have e2 : v 2 = .int .i64 1 := (hv 2 _ 56 rfl rfl).1
        have e3 : v 3 = .pointer (some ⟨w.heap.size, 6, none⟩) := (hv 3 _ 57 rfl rfl).1
        have e4 : v 4 = .pointer (some ⟨w.heap.size, 6, none⟩) := (hv 4 _ 58 rfl rfl).1
        have e5 : v 5 = .int .i64 x6 := (hv 5 _ 59 rfl rfl).1
        have e6 : v 6 = .int .i64 i := (hv 6 _ 60 rfl rfl).1
        have e7 : v 7 = .int .i64 (256 * i) := (hv 7 _ 61 rfl rfl).1
        have e8 : v 8 = .int .i64 (x6 + 256 * i) := (hv 8 _ 62 rfl rfl).1
        have e9 : v 9 = .int .i64 1 := (hv 9 _ 63 rfl rfl).1
        have e10 : v 10 = .pointer (some ⟨w.heap.size, 6, none⟩) := (hv 10 _ 64 rfl rfl).1
        have e11 : v 11 = .pointer (some ⟨w.heap.size, 7, none⟩) := (hv 11 _ 65 rfl rfl).1
        have e12 : v 12 = .int .i64 x7 := (hv 12 _ 66 rfl rfl).1
        have e13 : v 13 = .int .i64 k := (hv 13 _ 67 rfl rfl).1
        have e14 : v 14 = .int .i64 (256 * k) := (hv 14 _ 68 rfl rfl).1
        have e15 : v 15 = .int .i64 (x7 + 256 * k) := (hv 15 _ 69 rfl rfl).1
        have e16 : v 16 = .pointer (some ⟨w.heap.size + 1, 6, none⟩) := (hv 16 _ 70 rfl rfl).1
        have e17 : v 17 = .pointer (some ⟨w.heap.size + 1, 6, none⟩) := (hv 17 _ 71 rfl rfl).1
        have e19 : v 19 = .pointer (some ⟨w.heap.size + 1, 6, none⟩) := (hv 19 _ 72 rfl rfl).1
        have e20 : v 20 = .pointer (some ⟨w.heap.size + 1, 7, none⟩) := (hv 20 _ 73 rfl rfl).1
        simp only [Pred.putsF_cons, Pred.putsF_nil, Nat.zero_add, Nat.reduceAdd, e0, e1, e2, e3, e4, e5, e6, e7, e8, e9, e10, e11, e12, e13, e14, e15, e16, e17, e19, e20, Act.put, List.setIfInBounds_toArray, List.set_cons_zero, List.set_cons_succ]
        clear e0 e1 e2 e3 e4 e5 e6 e7 e8 e9 e10 e11 e12 e13 e14 e15 e16 e17 e19 e20 hv
        have bTn : blk W9 w.heap.size = some (.cells (cs .i64 [x0, x1, x2, x3, x4, x5, x6, x7, x8, x9, x10, x11, x12, x13, x14, x15, x16, x17]) 24 (0, 0)) := (blk_below hE _ (Nat.lt_succ_self _)).trans bT
        have bOn : blk W9 (w.heap.size + 1) = some (.cells (cs .i64 (oK x0 x1 x2 x3 x4 x5 x6 x7 x8 x9 x10 x11 x12 x13 x14 x15 x16 x17 i k 2)) 24 (0, 0)) := hS
        have L9 : Below w.heap.size w W9 := L8.trans (hE.mono (by omega))
        clear hE hS bT bO8 L8 lO
        go_wp2
        exact ⟨⟨2, by omega, by go_num, FY, bTn, bOn, L9⟩, by simp [intOf]⟩
      · have FK : lowK [x0, x1, x2, x3, x4, x5, x6, x7, x8, x9, x10, x11, x12, x13, x14, x15, x16, x17] 2 = lowB x12 x13 := rfl
        have bT8 : blk Y w.heap.size = some (.cells (cs .i64 [x0, x1, x2, x3, x4, x5, x6, x7, x8, x9, x10, x11, x12, x13, x14, x15, x16, x17]) 24 (0, 0)) := BT
        have bO0 : blk Y (w.heap.size + 1) = some (.cells (cs .i64 [x0 + 256 * i, x1 + 256 * k, x2, x3, x4, x5, x6 + 256 * i, x7 + 256 * k, x8, x9, x10, x11, 0, 0, 0, 0, 0, 0]) 24 (0, 0)) := BO
        have cx : Y.cell? ⟨w.heap.size, 12, none⟩ = some (.int .i64 x12) := by rw [blk_cell bT8]; rfl
        have cy : Y.cell? ⟨w.heap.size, 13, none⟩ = some (.int .i64 x13) := by rw [blk_cell bT8]; rfl
        clear BT BO
        by_cases h0 : x12 < 0
        · have d0 : decide (x12 < 0) = true := decide_eq_true h0
          clear FK h0
          go_wp2_with fail
          refine (awake_any _).mono ?_
          rintro e w6 ⟨rfl, hb6⟩
          have L6 : Below w.heap.size w w6 := LY.trans (hb6.mono LY.size)
          clear hb6
          go_wp2
          go_ret
          exact ⟨rfl, L6⟩
        have d0 : decide (x12 < 0) = false := decide_eq_false h0
        by_cases h1 : 5120 < x12
        · have d1 : decide (5120 < x12) = true := decide_eq_true h1
          clear FK h1
          go_wp2_with fail
          refine (awake_any _).mono ?_
          rintro e w6 ⟨rfl, hb6⟩
          have L6 : Below w.heap.size w w6 := LY.trans (hb6.mono LY.size)
          clear hb6
          go_wp2
          go_ret
          exact ⟨rfl, L6⟩
        have d1 : decide (5120 < x12) = false := decide_eq_false h1
        by_cases h2 : x13 < 0
        · have d2 : decide (x13 < 0) = true := decide_eq_true h2
          clear FK h2
          go_wp2_with fail
          refine (awake_any _).mono ?_
          rintro e w6 ⟨rfl, hb6⟩
          have L6 : Below w.heap.size w w6 := LY.trans (hb6.mono LY.size)
          clear hb6
          go_wp2
          go_ret
          exact ⟨rfl, L6⟩
        have d2 : decide (x13 < 0) = false := decide_eq_false h2
        by_cases h3 : 5120 < x13
        · have d3 : decide (5120 < x13) = true := decide_eq_true h3
          clear FK h3
          go_wp2_with fail
          refine (awake_any _).mono ?_
          rintro e w6 ⟨rfl, hb6⟩
          have L6 : Below w.heap.size w w6 := LY.trans (hb6.mono LY.size)
          clear hb6
          go_wp2
          go_ret
          exact ⟨rfl, L6⟩
        have d3 : decide (5120 < x13) = false := decide_eq_false h3
        have FY := Lib.hid (l_step HF.out (FK.trans (decide_eq_true (by omega))))
        clear FK
        go_upto_region 9 with (fail)
        refine Rd.name_world ?_
        intro W8 hw
        have bT : blk W8 w.heap.size = some (.cells (cs .i64 [x0, x1, x2, x3, x4, x5, x6, x7, x8, x9, x10, x11, x12, x13, x14, x15, x16, x17]) 24 (0, 0)) := by rw [hw, blk_setRow_other _ _ _ _ (by omega)]; exact bT8
        have bO8 : blk W8 (w.heap.size + 1) = some (.cells (cs .i64 [x0 + 256 * i, x1 + 256 * k, x2, x3, x4, x5, x6 + 256 * i, x7 + 256 * k, x8, x9, x10, x11, x12, x13, x14, x15, x16, x17]) 24 (0, 0)) := by rw [hw]; exact (blk_setRow_of bO0 _).trans rfl
        have lO := blk_lt bO8
        have L8 : Below w.heap.size w W8 := by rw [hw]; exact Rd.below_setRow LY (by omega) _
        clear hw cx cy bT8 bO0 LY
        refine PredT.region_of (W := W8) ((w.heap.size + 1)) (Nat.le_of_lt lO) [18, 21] [
            fun X => blk X (w.heap.size + 1) = some (.cells (cs .i64 [x0 + 256 * i, x1 + 256 * k, x2, x3, x4, x5, x6 + 256 * i, x7 + 256 * k, x8, x9, x10, x11, x12, x13, x14, x15, x16, x17]) 24 (0, 0)),
            fun X => blk X (w.heap.size + 1) = some (.cells (cs .i64 [x0 + 256 * i, x1 + 256 * k, x2, x3, x4, x5, x6 + 256 * i, x7 + 256 * k, x8, x9, x10, x11, x12 + 256 * i, x13, x14, x15, x16, x17]) 24 (0, 0)),
            fun X => blk X (w.heap.size + 1) = some (.cells (cs .i64 [x0 + 256 * i, x1 + 256 * k, x2, x3, x4, x5, x6 + 256 * i, x7 + 256 * k, x8, x9, x10, x11, x12 + 256 * i, x13 + 256 * k, x14, x15, x16, x17]) 24 (0, 0))] [
            PredT.At 0 (.int .i64 2),
            PredT.At 0 (.int .i64 2),
            PredT.At 0 (.int .i64 2),
            PredT.At 0 (.pointer (some ⟨w.heap.size, 12, none⟩)),
            PredT.At 0 (.pointer (some ⟨w.heap.size, 12, none⟩)),
            PredT.At 0 (.int .i64 x12),
            PredT.At 0 (.int .i64 i),
            PredT.At 0 (.int .i64 (256 * i)),
            PredT.At 0 (.int .i64 (x12 + 256 * i)),
            PredT.At 0 (.int .i64 2),
            PredT.At 0 (.pointer (some ⟨w.heap.size, 12, none⟩)),
            PredT.At 0 (.pointer (some ⟨w.heap.size, 13, none⟩)),
            PredT.At 0 (.int .i64 x13),
            PredT.At 0 (.int .i64 k),
            PredT.At 0 (.int .i64 (256 * k)),
            PredT.At 0 (.int .i64 (x13 + 256 * k)),
            PredT.At 0 (.pointer (some ⟨w.heap.size + 1, 12, none⟩)),
            PredT.At 0 (.pointer (some ⟨w.heap.size + 1, 12, none⟩)),
            PredT.At 0 (undef),
            PredT.At 0 (.pointer (some ⟨w.heap.size + 1, 12, none⟩)),
            PredT.At 0 (.pointer (some ⟨w.heap.size + 1, 13, none⟩)),
            PredT.At 0 (undef)] (by kernel_rfl) (by kernel_rfl) (by kernel_rfl) (by decide) (by decide) ?_ ?_ ?_ ?_ ?_ ?_
        · exact ⟨PredT.at_stab _ _ _ _, PredT.at_stab _ _ _ _, PredT.at_stab _ _ _ _, PredT.at_stab _ _ _ _, PredT.at_stab _ _ _ _, PredT.at_stab _ _ _ _, PredT.at_stab _ _ _ _, PredT.at_stab _ _ _ _, PredT.at_stab _ _ _ _, PredT.at_stab _ _ _ _, PredT.at_stab _ _ _ _, PredT.at_stab _ _ _ _, PredT.at_stab _ _ _ _, PredT.at_stab _ _ _ _, PredT.at_stab _ _ _ _, PredT.at_stab _ _ _ _, PredT.at_stab _ _ _ _, PredT.at_stab _ _ _ _, PredT.at_stab _ _ _ _, PredT.at_stab _ _ _ _, PredT.at_stab _ _ _ _, PredT.at_stab _ _ _ _, trivial⟩
        · intro q hq
          rcases List.mem_cons.1 hq with rfl | hq
          · exact fun X Y h hb => (hb.block _ (blk_lt h)).trans h
          rcases List.mem_cons.1 hq with rfl | hq
          · exact fun X Y h hb => (hb.block _ (blk_lt h)).trans h
          rcases List.mem_cons.1 hq with rfl | hq
          · exact fun X Y h hb => (hb.block _ (blk_lt h)).trans h
          cases hq
        · exact bO8
        · refine ⟨.inr ?_, .inr ?_, .inr ?_, .inr ?_, .inr ?_, .inr ?_, .inr ?_, .inr ?_, .inr ?_, .inr ?_, .inr ?_, .inr ?_, .inr ?_, .inr ?_, .inr ?_, .inr ?_, .inr ?_, .inr ?_, .inl rfl, .inr ?_, .inr ?_, .inl rfl, trivial⟩
          · intro b X p hE hd hn hS hV hI hF
            have r10 : b.tmps[10]?.getD undef = .int .i64 2 := (hn 10 (by kernel_rfl)).trans rfl
            exact Pred.yields_run (v := .int .i64 2) (Pred.wanted_none rfl) (by go_simp) ⟨Below.refl _ _, rfl, Nat.zero_le _⟩
          · intro b X p hE hd hn hS hV hI hF
            have r10 : b.tmps[10]?.getD undef = .int .i64 2 := (hn 10 (by kernel_rfl)).trans rfl
            exact Pred.yields_run (v := .int .i64 2) (Pred.wanted_none rfl) (by go_simp) ⟨Below.refl _ _, rfl, Nat.zero_le _⟩
          · intro b X p hE hd hn hS hV hI hF
            have r10 : b.tmps[10]?.getD undef = .int .i64 2 := (hn 10 (by kernel_rfl)).trans rfl
            exact Pred.yields_run (v := .int .i64 2) (Pred.wanted_none rfl) (by go_simp) ⟨Below.refl _ _, rfl, Nat.zero_le _⟩
          · intro b X p hE hd hn hS hV hI hF
            have r3 : b.tmps[3]?.getD undef = .pointer (some ⟨w.heap.size, 0, none⟩) := (hn 3 (by kernel_rfl)).trans rfl
            obtain ⟨r56, j56⟩ : PredT.At 0 (.int .i64 2) (b.tmps[56]?.getD undef) X p := hV 2 _ 56 rfl rfl (Pred.waits_near (by kernel_rfl) (by kernel_rfl))
            exact Pred.yields_run (v := .pointer (some ⟨w.heap.size, 12, none⟩)) (Pred.wanted_none rfl) (by go_simp) ⟨Below.refl _ _, rfl, Nat.zero_le _⟩
          · intro b X p hE hd hn hS hV hI hF
            obtain ⟨r57, j57⟩ : PredT.At 0 (.pointer (some ⟨w.heap.size, 12, none⟩)) (b.tmps[57]?.getD undef) X p := hV 3 _ 57 rfl rfl (Pred.waits_near (by kernel_rfl) (by kernel_rfl))
            exact Pred.yields_run (v := .pointer (some ⟨w.heap.size, 12, none⟩)) (Pred.wanted_none rfl) (by go_simp) ⟨Below.refl _ _, rfl, Nat.zero_le _⟩
          · intro b X p hE hd hn hS hV hI hF
            obtain ⟨r58, j58⟩ : PredT.At 0 (.pointer (some ⟨w.heap.size, 12, none⟩)) (b.tmps[58]?.getD undef) X p := hV 4 _ 58 rfl rfl (Pred.waits_near (by kernel_rfl) (by kernel_rfl))
            have q := (blk_below hE _ (Nat.lt_succ_self _)).trans bT
            have z : X.cell? ⟨w.heap.size, 12, none⟩ = some (.int .i64 x12) := by rw [blk_cell q]; rfl
            exact Pred.yields_run (v := .int .i64 x12) (Pred.wanted_none rfl) (by go_simp) ⟨Below.refl _ _, rfl, Nat.zero_le _⟩
          · intro b X p hE hd hn hS hV hI hF
            have r7 : b.tmps[7]?.getD undef = .int .i64 i := (hn 7 (by kernel_rfl)).trans rfl
            exact Pred.yields_run (v := .int .i64 i) (Pred.wanted_none rfl) (by go_simp) ⟨Below.refl _ _, rfl, Nat.zero_le _⟩
          · intro b X p hE hd hn hS hV hI hF
            obtain ⟨r60, j60⟩ : PredT.At 0 (.int .i64 i) (b.tmps[60]?.getD undef) X p := hV 6 _ 60 rfl rfl (Pred.waits_near (by kernel_rfl) (by kernel_rfl))
            exact Pred.yields_run (v := .int .i64 (256 * i)) (Pred.wanted_none rfl) (by go_simp; exact IntWalk.i64_in _ (by omega)) ⟨Below.refl _ _, rfl, Nat.zero_le _⟩
          · intro b X p hE hd hn hS hV hI hF
            obtain ⟨r59, j59⟩ : PredT.At 0 (.int .i64 x12) (b.tmps[59]?.getD undef) X p := hV 5 _ 59 rfl rfl (Pred.waits_near (by kernel_rfl) (by kernel_rfl))
            obtain ⟨r61, j61⟩ : PredT.At 0 (.int .i64 (256 * i)) (b.tmps[61]?.getD undef) X p := hV 7 _ 61 rfl rfl (Pred.waits_near (by kernel_rfl) (by kernel_rfl))
            exact Pred.yields_run (v := .int .i64 (x12 + 256 * i)) (Pred.wanted_none rfl) (by go_simp; exact IntWalk.i64_in _ (by omega)) ⟨Below.refl _ _, rfl, Nat.zero_le _⟩
          · intro b X p hE hd hn hS hV hI hF
            have r10 : b.tmps[10]?.getD undef = .int .i64 2 := (hn 10 (by kernel_rfl)).trans rfl
            exact Pred.yields_run (v := .int .i64 2) (Pred.wanted_none rfl) (by go_simp) ⟨Below.refl _ _, rfl, Nat.zero_le _⟩
          · intro b X p hE hd hn hS hV hI hF
            have r3 : b.tmps[3]?.getD undef = .pointer (some ⟨w.heap.size, 0, none⟩) := (hn 3 (by kernel_rfl)).trans rfl
            obtain ⟨r63, j63⟩ : PredT.At 0 (.int .i64 2) (b.tmps[63]?.getD undef) X p := hV 9 _ 63 rfl rfl (Pred.waits_near (by kernel_rfl) (by kernel_rfl))
            exact Pred.yields_run (v := .pointer (some ⟨w.heap.size, 12, none⟩)) (Pred.wanted_none rfl) (by go_simp) ⟨Below.refl _ _, rfl, Nat.zero_le _⟩
          · intro b X p hE hd hn hS hV hI hF
            obtain ⟨r64, j64⟩ : PredT.At 0 (.pointer (some ⟨w.heap.size, 12, none⟩)) (b.tmps[64]?.getD undef) X p := hV 10 _ 64 rfl rfl (Pred.waits_near (by kernel_rfl) (by kernel_rfl))
            exact Pred.yields_run (v := .pointer (some ⟨w.heap.size, 13, none⟩)) (Pred.wanted_none rfl) (by go_simp) ⟨Below.refl _ _, rfl, Nat.zero_le _⟩
          · intro b X p hE hd hn hS hV hI hF
            obtain ⟨r65, j65⟩ : PredT.At 0 (.pointer (some ⟨w.heap.size, 13, none⟩)) (b.tmps[65]?.getD undef) X p := hV 11 _ 65 rfl rfl (Pred.waits_near (by kernel_rfl) (by kernel_rfl))
            have q := (blk_below hE _ (Nat.lt_succ_self _)).trans bT
            have z : X.cell? ⟨w.heap.size, 13, none⟩ = some (.int .i64 x13) := by rw [blk_cell q]; rfl
            exact Pred.yields_run (v := .int .i64 x13) (Pred.wanted_none rfl) (by go_simp) ⟨Below.refl _ _, rfl, Nat.zero_le _⟩
          · intro b X p hE hd hn hS hV hI hF
            have r8 : b.tmps[8]?.getD undef = .int .i64 k := (hn 8 (by kernel_rfl)).trans rfl
            exact Pred.yields_run (v := .int .i64 k) (Pred.wanted_none rfl) (by go_simp) ⟨Below.refl _ _, rfl, Nat.zero_le _⟩
          · intro b X p hE hd hn hS hV hI hF
            obtain ⟨r67, j67⟩ : PredT.At 0 (.int .i64 k) (b.tmps[67]?.getD undef) X p := hV 13 _ 67 rfl rfl (Pred.waits_near (by kernel_rfl) (by kernel_rfl))
            exact Pred.yields_run (v := .int .i64 (256 * k)) (Pred.wanted_none rfl) (by go_simp; exact IntWalk.i64_in _ (by omega)) ⟨Below.refl _ _, rfl, Nat.zero_le _⟩
          · intro b X p hE hd hn hS hV hI hF
            obtain ⟨r66, j66⟩ : PredT.At 0 (.int .i64 x13) (b.tmps[66]?.getD undef) X p := hV 12 _ 66 rfl rfl (Pred.waits_near (by kernel_rfl) (by kernel_rfl))
            obtain ⟨r68, j68⟩ : PredT.At 0 (.int .i64 (256 * k)) (b.tmps[68]?.getD undef) X p := hV 14 _ 68 rfl rfl (Pred.waits_near (by kernel_rfl) (by kernel_rfl))
            exact Pred.yields_run (v := .int .i64 (x13 + 256 * k)) (Pred.wanted_none rfl) (by go_simp; exact IntWalk.i64_in _ (by omega)) ⟨Below.refl _ _, rfl, Nat.zero_le _⟩
          · intro b X p hE hd hn hS hV hI hF
            have r9 : b.tmps[9]?.getD undef = .pointer (some ⟨w.heap.size + 1, 0, none⟩) := (hn 9 (by kernel_rfl)).trans rfl
            obtain ⟨r54, j54⟩ : PredT.At 0 (.int .i64 2) (b.tmps[54]?.getD undef) X p := hV 0 _ 54 rfl rfl (Pred.waits_near (by kernel_rfl) (by kernel_rfl))
            exact Pred.yields_run (v := .pointer (some ⟨w.heap.size + 1, 12, none⟩)) (Pred.wanted_none rfl) (by go_simp) ⟨Below.refl _ _, rfl, Nat.zero_le _⟩
          · intro b X p hE hd hn hS hV hI hF
            obtain ⟨r70, j70⟩ : PredT.At 0 (.pointer (some ⟨w.heap.size + 1, 12, none⟩)) (b.tmps[70]?.getD undef) X p := hV 16 _ 70 rfl rfl (Pred.waits_near (by kernel_rfl) (by kernel_rfl))
            exact Pred.yields_run (v := .pointer (some ⟨w.heap.size + 1, 12, none⟩)) (Pred.wanted_none rfl) (by go_simp) ⟨Below.refl _ _, rfl, Nat.zero_le _⟩
          · intro b X p hE hd hn hS hV hI hF
            have r9 : b.tmps[9]?.getD undef = .pointer (some ⟨w.heap.size + 1, 0, none⟩) := (hn 9 (by kernel_rfl)).trans rfl
            obtain ⟨r55, j55⟩ : PredT.At 0 (.int .i64 2) (b.tmps[55]?.getD undef) X p := hV 1 _ 55 rfl rfl (Pred.waits_near (by kernel_rfl) (by kernel_rfl))
            exact Pred.yields_run (v := .pointer (some ⟨w.heap.size + 1, 12, none⟩)) (Pred.wanted_none rfl) (by go_simp) ⟨Below.refl _ _, rfl, Nat.zero_le _⟩
          · intro b X p hE hd hn hS hV hI hF
            obtain ⟨r72, j72⟩ : PredT.At 0 (.pointer (some ⟨w.heap.size + 1, 12, none⟩)) (b.tmps[72]?.getD undef) X p := hV 19 _ 72 rfl rfl (Pred.waits_near (by kernel_rfl) (by kernel_rfl))
            exact Pred.yields_run (v := .pointer (some ⟨w.heap.size + 1, 13, none⟩)) (Pred.wanted_none rfl) (by go_simp) ⟨Below.refl _ _, rfl, Nat.zero_le _⟩
        · refine ⟨?_, ?_, trivial⟩
          · refine ⟨_, rfl, fun k hk => (by cases hk), fun b X hE hd hn hS hV hI => ?_⟩
            obtain ⟨r71, j71⟩ : PredT.At 0 (.pointer (some ⟨w.heap.size + 1, 12, none⟩)) (b.tmps[71]?.getD undef) X 0 := hV 17 _ 71 rfl rfl (Pred.waits_near (by kernel_rfl) (by kernel_rfl))
            obtain ⟨r62, j62⟩ : PredT.At 0 (.int .i64 (x12 + 256 * i)) (b.tmps[62]?.getD undef) X 0 := hV 8 _ 62 rfl rfl (Pred.waits_near (by kernel_rfl) (by kernel_rfl))
            replace hS : (fun X => blk X (w.heap.size + 1) = some (.cells (cs .i64 [x0 + 256 * i, x1 + 256 * k, x2, x3, x4, x5, x6 + 256 * i, x7 + 256 * k, x8, x9, x10, x11, x12, x13, x14, x15, x16, x17]) 24 (0, 0))) X := hS
            replace hS : blk X (w.heap.size + 1) = some (.cells (cs .i64 [x0 + 256 * i, x1 + 256 * k, x2, x3, x4, x5, x6 + 256 * i, x7 + 256 * k, x8, x9, x10, x11, x12, x13, x14, x15, x16, x17]) 24 (0, 0)) := hS
            have f0 := blk_frozen hS 12
            have cz : X.cell? ⟨w.heap.size + 1, 12, none⟩ = some (.int .i64 x12) := by rw [blk_cell hS]; rfl
            exact PredS.yields_skip (w' := X.setCell ⟨w.heap.size + 1, 12, none⟩ (.int .i64 (x12 + 256 * i))) (Pred.wanted_none rfl) (by go_simp) ⟨below_far X _ _ _, (blk_set X (w.heap.size + 1) 12 _ _ _ hS).trans rfl, rfl, Nat.zero_le _⟩
          · refine ⟨_, rfl, fun k hk => (by cases hk; exact Pred.waits_near (by kernel_rfl) (by kernel_rfl)), fun b X hE hd hn hS hV hI => ?_⟩
            obtain ⟨r73, j73⟩ : PredT.At 0 (.pointer (some ⟨w.heap.size + 1, 13, none⟩)) (b.tmps[73]?.getD undef) X 1 := hV 20 _ 73 rfl rfl (Pred.waits_near (by kernel_rfl) (by kernel_rfl))
            obtain ⟨r69, j69⟩ : PredT.At 0 (.int .i64 (x13 + 256 * k)) (b.tmps[69]?.getD undef) X 1 := hV 15 _ 69 rfl rfl (Pred.waits_near (by kernel_rfl) (by kernel_rfl))
            replace hS : (fun X => blk X (w.heap.size + 1) = some (.cells (cs .i64 [x0 + 256 * i, x1 + 256 * k, x2, x3, x4, x5, x6 + 256 * i, x7 + 256 * k, x8, x9, x10, x11, x12 + 256 * i, x13, x14, x15, x16, x17]) 24 (0, 0))) X := hS
            replace hS : blk X (w.heap.size + 1) = some (.cells (cs .i64 [x0 + 256 * i, x1 + 256 * k, x2, x3, x4, x5, x6 + 256 * i, x7 + 256 * k, x8, x9, x10, x11, x12 + 256 * i, x13, x14, x15, x16, x17]) 24 (0, 0)) := hS
            have f0 := blk_frozen hS 13
            have cz : X.cell? ⟨w.heap.size + 1, 13, none⟩ = some (.int .i64 x13) := by rw [blk_cell hS]; rfl
            exact PredS.yields_skip (w' := X.setCell ⟨w.heap.size + 1, 13, none⟩ (.int .i64 (x13 + 256 * k))) (Pred.wanted_none rfl) (by go_simp) ⟨below_far X _ _ _, (blk_set X (w.heap.size + 1) 13 _ _ _ hS).trans rfl, rfl, Nat.zero_le _⟩
        intro v W9 hE hS hv
        replace hS : (fun X => blk X (w.heap.size + 1) = some (.cells (cs .i64 [x0 + 256 * i, x1 + 256 * k, x2, x3, x4, x5, x6 + 256 * i, x7 + 256 * k, x8, x9, x10, x11, x12 + 256 * i, x13 + 256 * k, x14, x15, x16, x17]) 24 (0, 0))) W9 := hS
        have e0 : v 0 = .int .i64 2 := (hv 0 _ 54 rfl rfl).1
        have e1 : v 1 = .int .i64 2 := (hv 1 _ 55 rfl rfl).1
        have e2 : v 2 = .int .i64 2 := (hv 2 _ 56 rfl rfl).1
        have e3 : v 3 = .pointer (some ⟨w.heap.size, 12, none⟩) := (hv 3 _ 57 rfl rfl).1
        have e4 : v 4 = .pointer (some ⟨w.heap.size, 12, none⟩) := (hv 4 _ 58 rfl rfl).1
        have e5 : v 5 = .int .i64 x12 := (hv 5 _ 59 rfl rfl).1
        have e6 : v 6 = .int .i64 i := (hv 6 _ 60 rfl rfl).1
        have e7 : v 7 = .int .i64 (256 * i) := (hv 7 _ 61 rfl rfl).1
        have e8 : v 8 = .int .i64 (x12 + 256 * i) := (hv 8 _ 62 rfl rfl).1
        have e9 : v 9 = .int .i64 2 := (hv 9 _ 63 rfl rfl).1
        have e10 : v 10 = .pointer (some ⟨w.heap.size, 12, none⟩) := (hv 10 _ 64 rfl rfl).1
        have e11 : v 11 = .pointer (some ⟨w.heap.size, 13, none⟩) := (hv 11 _ 65 rfl rfl).1
        have e12 : v 12 = .int .i64 x13 := (hv 12 _ 66 rfl rfl).1
        have e13 : v 13 = .int .i64 k := (hv 13 _ 67 rfl rfl).1
        have e14 : v 14 = .int .i64 (256 * k) := (hv 14 _ 68 rfl rfl).1
        have e15 : v 15 = .int .i64 (x13 + 256 * k) := (hv 15 _ 69 rfl rfl).1
        have e16 : v 16 = .pointer (some ⟨w.heap.size + 1, 12, none⟩) := (hv 16 _ 70 rfl rfl).1
        have e17 : v 17 = .pointer (some ⟨w.heap.size + 1, 12, none⟩) := (hv 17 _ 71 rfl rfl).1
        have e19 : v 19 = .pointer (some ⟨w.heap.size + 1, 12, none⟩) := (hv 19 _ 72 rfl rfl).1
        have e20 : v 20 = .pointer (some ⟨w.heap.size + 1, 13, none⟩) := (hv 20 _ 73 rfl rfl).1
        simp only [Pred.putsF_cons, Pred.putsF_nil, Nat.zero_add, Nat.reduceAdd, e0, e1, e2, e3, e4, e5, e6, e7, e8, e9, e10, e11, e12, e13, e14, e15, e16, e17, e19, e20, Act.put, List.setIfInBounds_toArray, List.set_cons_zero, List.set_cons_succ]
        clear e0 e1 e2 e3 e4 e5 e6 e7 e8 e9 e10 e11 e12 e13 e14 e15 e16 e17 e19 e20 hv
        have bTn : blk W9 w.heap.size = some (.cells (cs .i64 [x0, x1, x2, x3, x4, x5, x6, x7, x8, x9, x10, x11, x12, x13, x14, x15, x16, x17]) 24 (0, 0)) := (blk_below hE _ (Nat.lt_succ_self _)).trans bT
        have bOn : blk W9 (w.heap.size + 1) = some (.cells (cs .i64 (oK x0 x1 x2 x3 x4 x5 x6 x7 x8 x9 x10 x11 x12 x13 x14 x15 x16 x17 i k 3)) 24 (0, 0)) := hS
        have L9 : Below w.heap.size w W9 := L8.trans (hE.mono (by omega))
        clear hE hS bT bO8 L8 lO
        go_wp2
        exact ⟨⟨3, by omega, by go_num, FY, bTn, bOn, L9⟩, by simp [intOf]⟩
    · obtain rfl : j = 3 := by omega
      obtain ⟨T, eT⟩ : ∃ T, [x0, x1, x2, x3, x4, x5, x6, x7, x8, x9, x10, x11, x12, x13, x14, x15, x16, x17] = T := ⟨_, rfl⟩
      have eO : oK x0 x1 x2 x3 x4 x5 x6 x7 x8 x9 x10 x11 x12 x13 x14 x15 x16 x17 i k 3 = mvT [x0, x1, x2, x3, x4, x5, x6, x7, x8, x9, x10, x11, x12, x13, x14, x15, x16, x17] i k := rfl
      rw [eO] at BO
      rw [eT] at BT BO HF
      have hl : T.length = 18 := by rw [← eT]; rfl
      clear eO l0 l1 l2
      have hLow := low_of hl HF.out
      have hTri := low_tri hLow
      have hTri2 := mv_tri hLow ⟨hi0, hi1⟩ ⟨hk0, hk1⟩
      have HLow := Lib.hid hLow
      have hl2 : (mvT T i k).length = 18 := rfl
      have bT := BT
      have bO := BO
      have lT := blk_lt bT
      have lO := blk_lt bO
      have CA : Hid (∀ X : World, Calls Try.prog 14 #[.agg (cs .i64 T)] X fun e w' => e = .returned (.int .i64 (area T)) ∧ Below X.heap.size X w') := Lib.hid fun X => area_any T hTri X
      have CB : Hid (∀ X : World, Calls Try.prog 14 #[.agg (cs .i64 (mvT T i k))] X fun e w' => e = .returned (.int .i64 (area T)) ∧ Below X.heap.size X w') := Lib.hid fun X => by
        have := area_any (mvT T i k) hTri2 X
        rw [area_mv hl] at this
        exact this
      obtain ⟨ar, ear⟩ : ∃ q, area T = q := ⟨_, rfl⟩
      rw [ear] at CA CB
      clear BT BO HF hLow ear eT
      as_aux_lemma =>
      go_wp2_with fail
      refine Pred.region_vals (Pred.Of [
          Is (.agg (cs .i64 T)),
          SH ((pixV T 32 32).length) (pixV T 32 32),
          Is (.agg (cs .i64 (mvT T i k))),
          SH ((pixV (mvT T i k) 32 32).length) (pixV (mvT T i k) 32 32),
          SH ((pixV T 32 32).length) (pixV T 32 32),
          SH ((pixV (mvT T i k) 32 32).length) (pixV (mvT T i k) 32 32)]) (by kernel_rfl) (by kernel_rfl) (by kernel_rfl) (Pred.of_stab ?_) ?_ ?_
      · exact ⟨is_stab _, sh_stab _ _, is_stab _, sh_stab _ _, sh_stab _ _, sh_stab _ _, trivial⟩
      · refine ⟨?_, ?_, ?_, ?_, ?_, ?_, trivial⟩
        · intro b X hE hd hn hV
          have r3 : b.tmps[3]?.getD undef = .pointer (some ⟨w.heap.size, 0, none⟩) := (hn 3 (by kernel_rfl)).trans rfl
          have q := (blk_below hE _ lT).trans bT
          exact Pred.yields_run (v := .agg (cs .i64 T)) (Pred.wanted_none rfl) (by go_simp) ⟨Pred.ext_refl _ _, rfl⟩
        · intro b X hE hd hn hV
          have r74 : b.tmps[74]?.getD undef = .agg (cs .i64 T) := hV 0 _ 74 rfl rfl (Pred.waits_near (by kernel_rfl) (by kernel_rfl))
          refine Pred.yields_call (f := 18) (args := #[.agg (cs .i64 T), .int .i64 32, .int .i64 32, .int .i64 (-1)]) (Pred.wanted_none rfl) (by go_simp) ?_
          exact (all32 _ hTri _ _ _).mono fun e w2 ⟨⟨a, c, he, ha⟩, hb⟩ => ⟨_, he, Pred.ext_below hb hE.size, a, c, rfl, ha⟩
        · intro b X hE hd hn hV
          have r9 : b.tmps[9]?.getD undef = .pointer (some ⟨w.heap.size + 1, 0, none⟩) := (hn 9 (by kernel_rfl)).trans rfl
          have q := (blk_below hE _ lO).trans bO
          exact Pred.yields_run (v := .agg (cs .i64 (mvT T i k))) (Pred.wanted_none rfl) (by go_simp) ⟨Pred.ext_refl _ _, rfl⟩
        · intro b X hE hd hn hV
          have r76 : b.tmps[76]?.getD undef = .agg (cs .i64 (mvT T i k)) := hV 2 _ 76 rfl rfl (Pred.waits_near (by kernel_rfl) (by kernel_rfl))
          refine Pred.yields_call (f := 18) (args := #[.agg (cs .i64 (mvT T i k)), .int .i64 32, .int .i64 32, .int .i64 (-1)]) (Pred.wanted_none rfl) (by go_simp) ?_
          exact (all32 _ hTri2 _ _ _).mono fun e w2 ⟨⟨a, c, he, ha⟩, hb⟩ => ⟨_, he, Pred.ext_below hb hE.size, a, c, rfl, ha⟩
        · intro b X hE hd hn hV
          obtain ⟨ga75, ca75, r75, hr75⟩ : SH ((pixV T 32 32).length) (pixV T 32 32) (b.tmps[75]?.getD undef) X := hV 1 _ 75 rfl rfl (Pred.waits_near (by kernel_rfl) (by kernel_rfl))
          exact Pred.yields_run (v := .slice ga75 (pixV T 32 32).length ca75) (Pred.wanted_none rfl) (by go_simp) ⟨Pred.ext_refl _ _, _, _, rfl, hr75⟩
        · intro b X hE hd hn hV
          obtain ⟨ga77, ca77, r77, hr77⟩ : SH ((pixV (mvT T i k) 32 32).length) (pixV (mvT T i k) 32 32) (b.tmps[77]?.getD undef) X := hV 3 _ 77 rfl rfl (Pred.waits_near (by kernel_rfl) (by kernel_rfl))
          exact Pred.yields_run (v := .slice ga77 (pixV (mvT T i k) 32 32).length ca77) (Pred.wanted_none rfl) (by go_simp) ⟨Pred.ext_refl _ _, _, _, rfl, hr77⟩
      intro v w10 hE hv
      have e0 : v 0 = .agg (cs .i64 T) := hv 0 _ 74 rfl rfl
      obtain ⟨ga1, ca1, e1, hr1⟩ : SH ((pixV T 32 32).length) (pixV T 32 32) (v 1) w10 := hv 1 _ 75 rfl rfl
      have e2 : v 2 = .agg (cs .i64 (mvT T i k)) := hv 2 _ 76 rfl rfl
      obtain ⟨ga3, ca3, e3, hr3⟩ : SH ((pixV (mvT T i k) 32 32).length) (pixV (mvT T i k) 32 32) (v 3) w10 := hv 3 _ 77 rfl rfl
      obtain ⟨ga4, ca4, e4, hr4⟩ : SH ((pixV T 32 32).length) (pixV T 32 32) (v 4) w10 := hv 4 _ 11 rfl rfl
      obtain ⟨ga5, ca5, e5, hr5⟩ : SH ((pixV (mvT T i k) 32 32).length) (pixV (mvT T i k) 32 32) (v 5) w10 := hv 5 _ 12 rfl rfl
      simp only [Pred.putsF_cons, Pred.putsF_nil, Nat.zero_add, Nat.reduceAdd, e0, e1, e2, e3, e4, e5, Act.put, List.setIfInBounds_toArray, List.set_cons_zero, List.set_cons_succ]
      clear e0 e1 e2 e3 e4 e5 hv
      replace bT := (blk_below hE _ lT).trans bT
      replace bO := (blk_below hE _ lO).trans bO
      replace lT := blk_lt bT
      replace lO := blk_lt bO
      have L10 : Below w.heap.size w w10 := LY.trans (hE.mono LY.size)
      have H1 := Lib.hid hr4
      have H2 := Lib.hid hr5
      clear hE LY hr1 hr3 hr4 hr5
      rw [pix_len (mvT T i k), frameC_mv HLow.out ⟨hi0, hi1⟩ ⟨hk0, hk1⟩, List.length_map, pix_len T]
      obtain ⟨N, eN⟩ : ∃ N, (frameC T 32 32).length = N := ⟨_, rfl⟩
      have hN1 : N ≤ 1024 := by have := frameC_small T 32 32; rw [eN] at this; exact this
      have EN := Lib.hid eN
      rw [eN]
      clear eN
      go_wp2_with fail
      go_loopw [13] (fun v X => ∃ j : Nat, j ≤ N ∧ v = .int .i64 j ∧ Below w10.heap.size w10 X) (fun v _ => N - (intOf v).toNat)
      case atStart => exact ⟨0, by omega, rfl, Below.refl _ _⟩
      case round =>
        obtain ⟨j, hj, rfl, hb⟩ := hrel
        rename World => Z
        by_cases hjl : j < N
        · as_aux_lemma =>
          have hjl' : (j : Int) < N := by omega
          have hjF : j < (frameC T 32 32).length := by rw [EN.out]; exact hjl
          obtain ⟨px, py, e0, e1, e2, ⟨hp0, hp1⟩, ⟨hp2, hp3⟩, q1, q2⟩ := moves_at HLow.out ⟨hi0, hi1⟩ ⟨hk0, hk1⟩ hjF
          have hj1 : j < (pixV T 32 32).length := by rw [pix_len]; exact hjF
          have hj2 : j < (pixV (mvT T i k) 32 32).length := by rw [pix_len, frameC_mv HLow.out ⟨hi0, hi1⟩ ⟨hk0, hk1⟩, List.length_map]; exact hjF
          obtain ⟨gx, ox, s1, b1, c1⟩ := hit_some H1.out (by omega)
          obtain ⟨gy, oy, s2, b2, c2⟩ := hit_some H2.out (by omega)
          subst s1 s2
          obtain ⟨u0, u1, u2, u3, u4⟩ := hit_five_at c1 hb b1 hj1 q1
          obtain ⟨v0, v1, v2, v3, v4⟩ := hit_five_at c2 hb b2 hj2 q2
          have u3' : Z.cell? ⟨gx, ox + j * 5 + 2 + 1, none⟩ = some (.int .i64 e1) := u3
          have u4' : Z.cell? ⟨gx, ox + j * 5 + 2 + 2, none⟩ = some (.int .i64 e2) := u4
          have v3' : Z.cell? ⟨gy, oy + j * 5 + 2 + 1, none⟩ = some (.int .i64 e1) := v3
          have v4' : Z.cell? ⟨gy, oy + j * 5 + 2 + 2, none⟩ = some (.int .i64 e2) := v4
          have dE : eqL [e0, e1, e2] [e0, e1, e2] = true := decide_eq_true rfl
          have w1 : IntKind.i64.wrap (px + i) = px + i := IntWalk.i64_in _ (by omega)
          have w2 : IntKind.i64.wrap (py + k) = py + k := IntWalk.i64_in _ (by omega)
          clear q1 q2 c1 c2 hj1 hj2 hjF H1 H2
          go_wp2_with fail
          go_quiet (fail)
          go_wp2
          exact ⟨⟨j + 1, by omega, by go_num, Rd.below_drewN hb _⟩, by simp [intOf]; omega⟩
        · obtain rfl : j = N := by omega
          as_aux_lemma =>
          replace bT := (blk_below hb _ lT).trans bT
          replace bO := (blk_below hb _ lO).trans bO
          replace lT := blk_lt bT
          replace lO := blk_lt bO
          have LZ : Below w.heap.size w Z := L10.trans (hb.mono L10.size)
          clear hb L10
          go_wp2_with fail
          refine Pred.region_vals (Pred.Of [
              Is (.agg (cs .i64 T)),
              Is (.int .i64 ar),
              Is (.agg (cs .i64 (mvT T i k))),
              Is (.int .i64 ar),
              Is (.bool true),
              Is (.bool true),
              Is (.bool true),
              Is (.bool true),
              Is (.bool true)]) (by kernel_rfl) (by kernel_rfl) (by kernel_rfl) (Pred.of_stab ?_) ?_ ?_
          · exact ⟨is_stab _, is_stab _, is_stab _, is_stab _, is_stab _, is_stab _, is_stab _, is_stab _, is_stab _, trivial⟩
          · refine ⟨?_, ?_, ?_, ?_, ?_, ?_, ?_, ?_, ?_, trivial⟩
            · intro b X hE hd hn hV
              have r3 : b.tmps[3]?.getD undef = .pointer (some ⟨w.heap.size, 0, none⟩) := (hn 3 (by kernel_rfl)).trans rfl
              have q := (blk_below hE _ lT).trans bT
              exact Pred.yields_run (v := .agg (cs .i64 T)) (Pred.wanted_none rfl) (by go_simp) ⟨Pred.ext_refl _ _, rfl⟩
            · intro b X hE hd hn hV
              have r130 : b.tmps[130]?.getD undef = .agg (cs .i64 T) := hV 0 _ 130 rfl rfl (Pred.waits_near (by kernel_rfl) (by kernel_rfl))
              refine Pred.yields_call (f := 14) (args := #[.agg (cs .i64 T)]) (Pred.wanted_none rfl) (by go_simp) ?_
              exact (CA.out _).mono fun e w2 ⟨he, hb⟩ => ⟨_, he, Pred.ext_below hb hE.size, rfl⟩
            · intro b X hE hd hn hV
              have r9 : b.tmps[9]?.getD undef = .pointer (some ⟨w.heap.size + 1, 0, none⟩) := (hn 9 (by kernel_rfl)).trans rfl
              have q := (blk_below hE _ lO).trans bO
              exact Pred.yields_run (v := .agg (cs .i64 (mvT T i k))) (Pred.wanted_none rfl) (by go_simp) ⟨Pred.ext_refl _ _, rfl⟩
            · intro b X hE hd hn hV
              have r132 : b.tmps[132]?.getD undef = .agg (cs .i64 (mvT T i k)) := hV 2 _ 132 rfl rfl (Pred.waits_near (by kernel_rfl) (by kernel_rfl))
              refine Pred.yields_call (f := 14) (args := #[.agg (cs .i64 (mvT T i k))]) (Pred.wanted_none rfl) (by go_simp) ?_
              exact (CB.out _).mono fun e w2 ⟨he, hb⟩ => ⟨_, he, Pred.ext_below hb hE.size, rfl⟩
            · intro b X hE hd hn hV
              have r131 : b.tmps[131]?.getD undef = .int .i64 ar := hV 1 _ 131 rfl rfl (Pred.waits_near (by kernel_rfl) (by kernel_rfl))
              have r133 : b.tmps[133]?.getD undef = .int .i64 ar := hV 3 _ 133 rfl rfl (Pred.waits_near (by kernel_rfl) (by kernel_rfl))
              exact Pred.yields_run (v := .bool true) (Pred.wanted_none rfl) (by go_simp) ⟨Pred.ext_refl _ _, rfl⟩
            · intro b X hE hd hn hV
              have r134 : b.tmps[134]?.getD undef = .bool true := hV 4 _ 134 rfl rfl (Pred.waits_near (by kernel_rfl) (by kernel_rfl))
              exact Pred.yields_run (v := .bool true) (Pred.wanted_none rfl) (by go_simp) ⟨Pred.ext_refl _ _, rfl⟩
            · intro b X hE hd hn hV
              have r135 : b.tmps[135]?.getD undef = .bool true := hV 5 _ 135 rfl rfl (Pred.waits_near (by kernel_rfl) (by kernel_rfl))
              refine Pred.yields_call (f := 9) (args := #[]) ((Pred.wanted_at (g := 5) (d := 135) (f := true) rfl rfl r135).trans rfl) (by go_simp) ?_
              exact (awake_any _).mono fun e w2 ⟨he, hb⟩ => ⟨_, he, Pred.ext_below hb hE.size, rfl⟩
            · intro b X hE hd hn hV
              have r135 : b.tmps[135]?.getD undef = .bool true := hV 5 _ 135 rfl rfl (Pred.waits_near (by kernel_rfl) (by kernel_rfl))
              have r136 : b.tmps[136]?.getD undef = .bool true := hV 6 _ 136 rfl rfl (Pred.waits_near (by kernel_rfl) (by kernel_rfl))
              exact Pred.yields_run (v := .bool true) (Pred.wanted_none rfl) (by go_simp) ⟨Pred.ext_refl _ _, rfl⟩
            · intro b X hE hd hn hV
              have r137 : b.tmps[137]?.getD undef = .bool true := hV 7 _ 137 rfl rfl (Pred.waits_near (by kernel_rfl) (by kernel_rfl))
              exact Pred.yields_run (v := .bool true) (Pred.wanted_none rfl) (by go_simp) ⟨Pred.ext_refl _ _, rfl⟩
          intro v w18 hE hv
          have e0 : v 0 = .agg (cs .i64 T) := hv 0 _ 130 rfl rfl
          have e1 : v 1 = .int .i64 ar := hv 1 _ 131 rfl rfl
          have e2 : v 2 = .agg (cs .i64 (mvT T i k)) := hv 2 _ 132 rfl rfl
          have e3 : v 3 = .int .i64 ar := hv 3 _ 133 rfl rfl
          have e4 : v 4 = .bool true := hv 4 _ 134 rfl rfl
          have e5 : v 5 = .bool true := hv 5 _ 135 rfl rfl
          have e6 : v 6 = .bool true := hv 6 _ 136 rfl rfl
          have e7 : v 7 = .bool true := hv 7 _ 137 rfl rfl
          have e8 : v 8 = .bool true := hv 8 _ 6 rfl rfl
          simp only [Pred.putsF_cons, Pred.putsF_nil, Nat.zero_add, Nat.reduceAdd, e0, e1, e2, e3, e4, e5, e6, e7, e8, Act.put, List.setIfInBounds_toArray, List.set_cons_zero, List.set_cons_succ]
          clear e0 e1 e2 e3 e4 e5 e6 e7 e8 hv
          have L18 : Below w.heap.size w w18 := LZ.trans (hE.mono LZ.size)
          clear hE LZ bT bO lT lO
          go_wp2
          go_ret
          exact ⟨rfl, L18⟩
end Go.Proofs.Ythkfnjblmilgnaa.EdU
