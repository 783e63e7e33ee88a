/-
  The law of package hue: what is between two goes on.
-/
import Derived.Test.YthlgokaehkifkaaHueE
import Derived.Test.YthlgokaehkifkaaPredS
import Derived.BigQuiet
namespace Go.Proofs.Ythlgokaehkifkaa.HueM
open Go.RowKit HueA Rd HueB HueC HueD HueE
open Go.Proofs.Ythlgokaehkifkaa.Row
open Go.Proofs.Ythlgokaehkifkaa.PredS (Is is_stab Stab)
set_option linter.unusedVariables false
set_option linter.unusedSimpArgs false
set_option maxRecDepth 100000
theorem load_col (x : Value) : Instr.loadAt 23 x = loadRow 23 x := rfl
theorem store_col (x v : Value) : Instr.storeAt 23 x v = storeRow 23 x v := rfl
theorem alloc_col : Instr.alloc 23 true (.tuple #[]) = allocRow 23 := rfl
def z4 : Array Value := #[.int .u8 0, .int .u8 0, .int .u8 0, .int .u8 0]
def v4 (a b c d : Int) : Array Value := #[.int .u8 a, .int .u8 b, .int .u8 c, .int .u8 d]
theorem z4_size : z4.size = 4 := rfl
theorem v4_size (a b c d : Int) : (v4 a b c d).size = 4 := rfl
theorem v4_all (a b c d : Int) : (v4 a b c d).all (fun x => x.oneCell') 0 4 = true := by simp [v4, Value.oneCell']
theorem run_alloc_col (w : World) : (allocRow 23).run Try.prog w = .ok (.pointer (some ⟨w.heap.size, 0, none⟩)) (w.alloc (.cells z4 23)) := by kernel_rfl
theorem run_load_col (g o : Nat) (W : World) : (loadRow 23 (.pointer (some ⟨g, o, none⟩))).run Try.prog W = rowLoad Try.prog 23 4 g o W := run_loadRow Try.underlying23 rfl (by kernel_rfl) g o W
theorem run_store_col (g o : Nat) (c : Array Value) (W : World) : (storeRow 23 (.pointer (some ⟨g, o, none⟩)) (.agg c)).run Try.prog W = rowStore Try.prog 23 4 g o c W := run_storeRow (by kernel_rfl) g o c W
attribute [local go_sem ↓] load_col store_col alloc_col
attribute [local go_sem] run_alloc_col run_load_col run_store_col rowLoad_eq rowStore_eq blk_alloc_at blk_alloc_old blk_drew blk_drewN blk_set_far blk_set_far' blk_grow setRow_alloc_at setRow_alloc_old setRow_drew setRow_drewN z4_size v4_size v4_all

theorem clamp_in {t : Int} (h0 : 0 ≤ t) (h1 : t ≤ 256) : clamp t = t := by unfold clamp; split <;> (try split) <;> omega
theorem mix_mono {s t a b : Int} (h : s ≤ t) (hab : a ≤ b) : mixB s a b ≤ mixB t a b := by
  unfold mixB
  have e : ∀ u : Int, (256 - u) * a + u * b = 256 * a + u * (b - a) := fun u => by rw [Int.sub_mul, Int.mul_sub]; omega
  have k : s * (b - a) ≤ t * (b - a) := Int.mul_le_mul_of_nonneg_right h (by omega)
  rw [e, e]; omega
theorem mix_anti {s t a b : Int} (h : s ≤ t) (hab : b ≤ a) : mixB t a b ≤ mixB s a b := by
  unfold mixB
  have e : ∀ u : Int, (256 - u) * a + u * b = 256 * a - u * (a - b) := fun u => by rw [Int.sub_mul, Int.mul_sub]; omega
  have k : s * (a - b) ≤ t * (a - b) := Int.mul_le_mul_of_nonneg_right h (by omega)
  rw [e, e]; omega
theorem mix_turn (s a b : Int) : mixB (256 - s) b a = mixB s a b := by
  unfold mixB
  rw [show (256 : Int) - (256 - s) = s by omega, Int.add_comm (s * b)]

set_option maxHeartbeats 8000000 in
theorem HueGoes_walk (a0_0 : Int) (a0_1 : Int) (a0_2 : Int) (a0_3 : Int) (a1_0 : Int) (a1_1 : Int) (a1_2 : Int) (a1_3 : Int) (a2 : Int) (a3 : Int) (w : World) (w0_0 : (Lit.int .u8 a0_0).wf = true) (w0_1 : (Lit.int .u8 a0_1).wf = true) (w0_2 : (Lit.int .u8 a0_2).wf = true) (w0_3 : (Lit.int .u8 a0_3).wf = true) (w1_0 : (Lit.int .u8 a1_0).wf = true) (w1_1 : (Lit.int .u8 a1_1).wf = true) (w1_2 : (Lit.int .u8 a1_2).wf = true) (w1_3 : (Lit.int .u8 a1_3).wf = true) (w2 : (Lit.int .i64 a2).wf = true) (w3 : (Lit.int .i64 a3).wf = true) :
    Calls Try.prog 6 #[.agg #[.int .u8 a0_0, .int .u8 a0_1, .int .u8 a0_2, .int .u8 a0_3], .agg #[.int .u8 a1_0, .int .u8 a1_1, .int .u8 a1_2, .int .u8 a1_3], .int .i64 a2, .int .i64 a3] w fun e w' => e = .returned (.bool true) ∧ Below w.heap.size w w' := by
  have p0_0 := b8_of w0_0
  have p0_1 := b8_of w0_1
  have p0_2 := b8_of w0_2
  have p0_3 := b8_of w0_3
  have p1_0 := b8_of w1_0
  have p1_1 := b8_of w1_1
  have p1_2 := b8_of w1_2
  have p1_3 := b8_of w1_3
  by_cases hg : a2 < 0 ∨ a3 < a2 ∨ 256 < a3
  · have hB : (decide (a2 < 0) || decide (a3 < a2) || decide (256 < a3)) = true := by simp; omega
    go_enter Try.func6, Try.ntmps6
    go_wp2_with (go_at_call 8; refine (awake_any _).mono ?_; rintro e w' ⟨rfl, hb⟩)
    all_goals (go_ret; exact ⟨rfl, by repeat' (first | (with_reducible exact Below.refl _ _) | (with_reducible refine Rd.below_step ?_ (by assumption)) | (with_reducible refine Rd.below_alloc ?_ _) | (with_reducible refine Rd.below_drewN ?_ _) | (with_reducible refine Below.drew ?_) | (with_reducible refine Below.setCell ?_ ?_ _) | (with_reducible refine Rd.below_setRow ?_ ?_ _) | go_size | (simp only [World.size_alloc]; omega) | omega)⟩)
  · have g1 : 0 ≤ a2 := by omega
    have g2 : a2 ≤ a3 := by omega
    have g3 : a3 ≤ 256 := by omega
    clear hg
    have c1 := clamp_in (t := a2) g1 (by omega)
    have c2 := clamp_in (t := a3) (by omega) g3
    have c3 := clamp_in (t := 256 - a2) (by omega) (by omega)
    have w256 : (Lit.int .i64 (256 - a2)).wf = true := WalkArith.wf_i64 (by omega)
    have mm0 : (a0_0 ≤ a1_0 → mixB a2 a0_0 a1_0 ≤ mixB a3 a0_0 a1_0) ∧ (a1_0 ≤ a0_0 → mixB a3 a0_0 a1_0 ≤ mixB a2 a0_0 a1_0) := ⟨fun h => mix_mono g2 h, fun h => mix_anti g2 h⟩
    have hz0 := mix_turn a2 a0_0 a1_0
    obtain ⟨x0, hx0⟩ : ∃ y, mixB a2 a0_0 a1_0 = y := ⟨_, rfl⟩
    obtain ⟨y0, hy0⟩ : ∃ y, mixB a3 a0_0 a1_0 = y := ⟨_, rfl⟩
    rw [hx0, hy0] at mm0
    rw [hx0] at hz0
    have mm1 : (a0_1 ≤ a1_1 → mixB a2 a0_1 a1_1 ≤ mixB a3 a0_1 a1_1) ∧ (a1_1 ≤ a0_1 → mixB a3 a0_1 a1_1 ≤ mixB a2 a0_1 a1_1) := ⟨fun h => mix_mono g2 h, fun h => mix_anti g2 h⟩
    have hz1 := mix_turn a2 a0_1 a1_1
    obtain ⟨x1, hx1⟩ : ∃ y, mixB a2 a0_1 a1_1 = y := ⟨_, rfl⟩
    obtain ⟨y1, hy1⟩ : ∃ y, mixB a3 a0_1 a1_1 = y := ⟨_, rfl⟩
    rw [hx1, hy1] at mm1
    rw [hx1] at hz1
    have mm2 : (a0_2 ≤ a1_2 → mixB a2 a0_2 a1_2 ≤ mixB a3 a0_2 a1_2) ∧ (a1_2 ≤ a0_2 → mixB a3 a0_2 a1_2 ≤ mixB a2 a0_2 a1_2) := ⟨fun h => mix_mono g2 h, fun h => mix_anti g2 h⟩
    have hz2 := mix_turn a2 a0_2 a1_2
    obtain ⟨x2, hx2⟩ : ∃ y, mixB a2 a0_2 a1_2 = y := ⟨_, rfl⟩
    obtain ⟨y2, hy2⟩ : ∃ y, mixB a3 a0_2 a1_2 = y := ⟨_, rfl⟩
    rw [hx2, hy2] at mm2
    rw [hx2] at hz2
    have mm3 : (a0_3 ≤ a1_3 → mixB a2 a0_3 a1_3 ≤ mixB a3 a0_3 a1_3) ∧ (a1_3 ≤ a0_3 → mixB a3 a0_3 a1_3 ≤ mixB a2 a0_3 a1_3) := ⟨fun h => mix_mono g2 h, fun h => mix_anti g2 h⟩
    have hz3 := mix_turn a2 a0_3 a1_3
    obtain ⟨x3, hx3⟩ : ∃ y, mixB a2 a0_3 a1_3 = y := ⟨_, rfl⟩
    obtain ⟨y3, hy3⟩ : ∃ y, mixB a3 a0_3 a1_3 = y := ⟨_, rfl⟩
    rw [hx3, hy3] at mm3
    rw [hx3] at hz3
    have cx : ∀ W : World, Calls Try.prog 11 #[.agg #[.int .u8 a0_0, .int .u8 a0_1, .int .u8 a0_2, .int .u8 a0_3], .agg #[.int .u8 a1_0, .int .u8 a1_1, .int .u8 a1_2, .int .u8 a1_3], .int .i64 (a2)] W fun e w' => e = .returned (.agg #[.int .u8 x0, .int .u8 x1, .int .u8 x2, .int .u8 x3]) ∧ Below W.heap.size W w' := fun W => by
      have h := lerp_any a0_0 a0_1 a0_2 a0_3 a1_0 a1_1 a1_2 a1_3 (a2) W p0_0 p0_1 p0_2 p0_3 p1_0 p1_1 p1_2 p1_3 w2
      rw [c1, hx0, hx1, hx2, hx3] at h
      exact h
    have cy : ∀ W : World, Calls Try.prog 11 #[.agg #[.int .u8 a0_0, .int .u8 a0_1, .int .u8 a0_2, .int .u8 a0_3], .agg #[.int .u8 a1_0, .int .u8 a1_1, .int .u8 a1_2, .int .u8 a1_3], .int .i64 (a3)] W fun e w' => e = .returned (.agg #[.int .u8 y0, .int .u8 y1, .int .u8 y2, .int .u8 y3]) ∧ Below W.heap.size W w' := fun W => by
      have h := lerp_any a0_0 a0_1 a0_2 a0_3 a1_0 a1_1 a1_2 a1_3 (a3) W p0_0 p0_1 p0_2 p0_3 p1_0 p1_1 p1_2 p1_3 w3
      rw [c2, hy0, hy1, hy2, hy3] at h
      exact h
    have cz : ∀ W : World, Calls Try.prog 11 #[.agg #[.int .u8 a1_0, .int .u8 a1_1, .int .u8 a1_2, .int .u8 a1_3], .agg #[.int .u8 a0_0, .int .u8 a0_1, .int .u8 a0_2, .int .u8 a0_3], .int .i64 (256 - a2)] W fun e w' => e = .returned (.agg #[.int .u8 x0, .int .u8 x1, .int .u8 x2, .int .u8 x3]) ∧ Below W.heap.size W w' := fun W => by
      have h := lerp_any a1_0 a1_1 a1_2 a1_3 a0_0 a0_1 a0_2 a0_3 (256 - a2) W p1_0 p1_1 p1_2 p1_3 p0_0 p0_1 p0_2 p0_3 w256
      rw [c3, hz0, hz1, hz2, hz3] at h
      exact h
    have MM0 := Lib.hid mm0
    clear mm0 hz0 hx0 hy0 p0_0 p1_0 w0_0 w1_0
    have MM1 := Lib.hid mm1
    clear mm1 hz1 hx1 hy1 p0_1 p1_1 w0_1 w1_1
    have MM2 := Lib.hid mm2
    clear mm2 hz2 hx2 hy2 p0_2 p1_2 w0_2 w1_2
    have MM3 := Lib.hid mm3
    clear mm3 hz3 hx3 hy3 p0_3 p1_3 w0_3 w1_3
    have CX := Lib.hid cx
    have CY := Lib.hid cy
    have CZ := Lib.hid cz
    clear cx cy cz c1 c2 c3
    go_enter Try.func6, Try.ntmps6
    go_upto_region 3 with (fail)
    refine Rd.name_world ?_
    intro W hW
    have bA : blk W w.heap.size = some (.cells (v4 a0_0 a0_1 a0_2 a0_3) 23 (0, 0)) := by rw [hW]; exact blk2_0 w _ _
    have bB : blk W (w.heap.size + 1) = some (.cells (v4 a1_0 a1_1 a1_2 a1_3) 23 (0, 0)) := by rw [hW]; exact blk2_1 w _ _
    have lA := blk_lt bA
    have lB := blk_lt bB
    have L1 : Below w.heap.size w W := by rw [hW]; repeat' (first | (with_reducible exact Below.refl _ _) | (with_reducible refine Rd.below_step ?_ (by assumption)) | (with_reducible refine Rd.below_alloc ?_ _) | (with_reducible refine Rd.below_drewN ?_ _) | (with_reducible refine Below.drew ?_) | (with_reducible refine Below.setCell ?_ ?_ _) | (with_reducible refine Rd.below_setRow ?_ ?_ _) | go_size | (simp only [World.size_alloc]; omega) | omega)
    clear hW
    refine PredS.region_vals (W := W) [⟨13, 16, 23, z4, (v4 x0 x1 x2 x3)⟩, ⟨14, 17, 23, z4, (v4 y0 y1 y2 y3)⟩, ⟨15, 18, 23, z4, (v4 x0 x1 x2 x3)⟩] (PredS.Of [
        Is (.agg (v4 a0_0 a0_1 a0_2 a0_3)),
        Is (.agg (v4 a1_0 a1_1 a1_2 a1_3)),
        Is (.int .i64 a2),
        Is (.agg (v4 x0 x1 x2 x3)),
        Is (.agg (v4 a0_0 a0_1 a0_2 a0_3)),
        Is (.agg (v4 a1_0 a1_1 a1_2 a1_3)),
        Is (.int .i64 a3),
        Is (.agg (v4 y0 y1 y2 y3)),
        Is (.agg (v4 a1_0 a1_1 a1_2 a1_3)),
        Is (.agg (v4 a0_0 a0_1 a0_2 a0_3)),
        Is (.int .i64 a2),
        Is (.int .i64 (256 - a2)),
        Is (.agg (v4 x0 x1 x2 x3)),
        Is undef,
        Is undef,
        Is undef,
        Is undef,
        Is undef,
        Is undef]) (by kernel_rfl) (by kernel_rfl) (by kernel_rfl) (by kernel_rfl) (PredS.of_stab ?_) ?_ ?_ ?_
    · exact ⟨is_stab _, is_stab _, is_stab _, is_stab _, is_stab _, is_stab _, is_stab _, is_stab _, is_stab _, is_stab _, is_stab _, is_stab _, is_stab _, is_stab _, is_stab _, is_stab _, is_stab _, is_stab _, is_stab _, trivial⟩
    · refine ⟨.inr ?_, .inr ?_, .inr ?_, .inr ?_, .inr ?_, .inr ?_, .inr ?_, .inr ?_, .inr ?_, .inr ?_, .inr ?_, .inr ?_, .inr ?_, .inl rfl, .inl rfl, .inl rfl, .inl rfl, .inl rfl, .inl rfl, trivial⟩
      · intro b X hE hd hn hV
        have r4 : b.tmps[4]?.getD undef = .pointer (some ⟨w.heap.size, 0, none⟩) := (hn 4 (by kernel_rfl)).trans rfl
        have q := (blk_below hE _ lA).trans bA
        exact Pred.yields_run (v := .agg (v4 a0_0 a0_1 a0_2 a0_3)) (Pred.wanted_none rfl) (by go_simp) ⟨PredS.ext_refl _ _ _, rfl⟩
      · intro b X hE hd hn hV
        have r5 : b.tmps[5]?.getD undef = .pointer (some ⟨w.heap.size + 1, 0, none⟩) := (hn 5 (by kernel_rfl)).trans rfl
        have q := (blk_below hE _ lB).trans bB
        exact Pred.yields_run (v := .agg (v4 a1_0 a1_1 a1_2 a1_3)) (Pred.wanted_none rfl) (by go_simp) ⟨PredS.ext_refl _ _ _, rfl⟩
      · intro b X hE hd hn hV
        have r2 : b.tmps[2]?.getD undef = .int .i64 a2 := (hn 2 (by kernel_rfl)).trans rfl
        exact Pred.yields_run (v := .int .i64 a2) (Pred.wanted_none rfl) (by go_simp) ⟨PredS.ext_refl _ _ _, rfl⟩
      · intro b X hE hd hn hV
        have r25 : b.tmps[25]?.getD undef = .agg (v4 a0_0 a0_1 a0_2 a0_3) := hV 0 _ 25 rfl rfl rfl (Pred.waits_near (by kernel_rfl) (by kernel_rfl))
        have r26 : b.tmps[26]?.getD undef = .agg (v4 a1_0 a1_1 a1_2 a1_3) := hV 1 _ 26 rfl rfl rfl (Pred.waits_near (by kernel_rfl) (by kernel_rfl))
        have r27 : b.tmps[27]?.getD undef = .int .i64 a2 := hV 2 _ 27 rfl rfl rfl (Pred.waits_near (by kernel_rfl) (by kernel_rfl))
        refine Pred.yields_call (f := 11) (args := #[.agg (v4 a0_0 a0_1 a0_2 a0_3), .agg (v4 a1_0 a1_1 a1_2 a1_3), .int .i64 (a2)]) (Pred.wanted_none rfl) (by go_simp) ?_
        exact (CX.out _).mono fun e w2 ⟨he, hb⟩ => ⟨_, he, PredS.ext_below hb hE.size, rfl⟩
      · intro b X hE hd hn hV
        have r4 : b.tmps[4]?.getD undef = .pointer (some ⟨w.heap.size, 0, none⟩) := (hn 4 (by kernel_rfl)).trans rfl
        have q := (blk_below hE _ lA).trans bA
        exact Pred.yields_run (v := .agg (v4 a0_0 a0_1 a0_2 a0_3)) (Pred.wanted_none rfl) (by go_simp) ⟨PredS.ext_refl _ _ _, rfl⟩
      · intro b X hE hd hn hV
        have r5 : b.tmps[5]?.getD undef = .pointer (some ⟨w.heap.size + 1, 0, none⟩) := (hn 5 (by kernel_rfl)).trans rfl
        have q := (blk_below hE _ lB).trans bB
        exact Pred.yields_run (v := .agg (v4 a1_0 a1_1 a1_2 a1_3)) (Pred.wanted_none rfl) (by go_simp) ⟨PredS.ext_refl _ _ _, rfl⟩
      · intro b X hE hd hn hV
        have r3 : b.tmps[3]?.getD undef = .int .i64 a3 := (hn 3 (by kernel_rfl)).trans rfl
        exact Pred.yields_run (v := .int .i64 a3) (Pred.wanted_none rfl) (by go_simp) ⟨PredS.ext_refl _ _ _, rfl⟩
      · intro b X hE hd hn hV
        have r29 : b.tmps[29]?.getD undef = .agg (v4 a0_0 a0_1 a0_2 a0_3) := hV 4 _ 29 rfl rfl rfl (Pred.waits_near (by kernel_rfl) (by kernel_rfl))
        have r30 : b.tmps[30]?.getD undef = .agg (v4 a1_0 a1_1 a1_2 a1_3) := hV 5 _ 30 rfl rfl rfl (Pred.waits_near (by kernel_rfl) (by kernel_rfl))
        have r31 : b.tmps[31]?.getD undef = .int .i64 a3 := hV 6 _ 31 rfl rfl rfl (Pred.waits_near (by kernel_rfl) (by kernel_rfl))
        refine Pred.yields_call (f := 11) (args := #[.agg (v4 a0_0 a0_1 a0_2 a0_3), .agg (v4 a1_0 a1_1 a1_2 a1_3), .int .i64 (a3)]) (Pred.wanted_none rfl) (by go_simp) ?_
        exact (CY.out _).mono fun e w2 ⟨he, hb⟩ => ⟨_, he, PredS.ext_below hb hE.size, rfl⟩
      · intro b X hE hd hn hV
        have r5 : b.tmps[5]?.getD undef = .pointer (some ⟨w.heap.size + 1, 0, none⟩) := (hn 5 (by kernel_rfl)).trans rfl
        have q := (blk_below hE _ lB).trans bB
        exact Pred.yields_run (v := .agg (v4 a1_0 a1_1 a1_2 a1_3)) (Pred.wanted_none rfl) (by go_simp) ⟨PredS.ext_refl _ _ _, rfl⟩
      · intro b X hE hd hn hV
        have r4 : b.tmps[4]?.getD undef = .pointer (some ⟨w.heap.size, 0, none⟩) := (hn 4 (by kernel_rfl)).trans rfl
        have q := (blk_below hE _ lA).trans bA
        exact Pred.yields_run (v := .agg (v4 a0_0 a0_1 a0_2 a0_3)) (Pred.wanted_none rfl) (by go_simp) ⟨PredS.ext_refl _ _ _, rfl⟩
      · intro b X hE hd hn hV
        have r2 : b.tmps[2]?.getD undef = .int .i64 a2 := (hn 2 (by kernel_rfl)).trans rfl
        exact Pred.yields_run (v := .int .i64 a2) (Pred.wanted_none rfl) (by go_simp) ⟨PredS.ext_refl _ _ _, rfl⟩
      · intro b X hE hd hn hV
        have r35 : b.tmps[35]?.getD undef = .int .i64 a2 := hV 10 _ 35 rfl rfl rfl (Pred.waits_near (by kernel_rfl) (by kernel_rfl))
        have hwr : IntKind.i64.wrap (256 - a2) = 256 - a2 := by (simp only [IntKind.wrap, IntKind.bits, IntKind.signed, Bool.true_and]; rw [if_neg (by simp; omega)]; simp; omega)
        exact Pred.yields_run (v := .int .i64 (256 - a2)) (Pred.wanted_none rfl) (by go_simp) ⟨PredS.ext_refl _ _ _, rfl⟩
      · intro b X hE hd hn hV
        have r33 : b.tmps[33]?.getD undef = .agg (v4 a1_0 a1_1 a1_2 a1_3) := hV 8 _ 33 rfl rfl rfl (Pred.waits_near (by kernel_rfl) (by kernel_rfl))
        have r34 : b.tmps[34]?.getD undef = .agg (v4 a0_0 a0_1 a0_2 a0_3) := hV 9 _ 34 rfl rfl rfl (Pred.waits_near (by kernel_rfl) (by kernel_rfl))
        have r36 : b.tmps[36]?.getD undef = .int .i64 (256 - a2) := hV 11 _ 36 rfl rfl rfl (Pred.waits_near (by kernel_rfl) (by kernel_rfl))
        refine Pred.yields_call (f := 11) (args := #[.agg (v4 a1_0 a1_1 a1_2 a1_3), .agg (v4 a0_0 a0_1 a0_2 a0_3), .int .i64 (256 - a2)]) (Pred.wanted_none rfl) (by go_simp) ?_
        exact (CZ.out _).mono fun e w2 ⟨he, hb⟩ => ⟨_, he, PredS.ext_below hb hE.size, rfl⟩
    · refine ⟨?_, ?_, ?_, trivial⟩
      · refine ⟨_, 9, _, rfl, rfl, by simp, rfl, fun ρ w => by first | (go_simp; done) | (go_simp; rfl), rfl, rfl, Pred.waits_near (by kernel_rfl) (by kernel_rfl), fun b X g hE hn hV hp hg hb => ?_⟩
        have r28 : b.tmps[28]?.getD undef = .agg (v4 x0 x1 x2 x3) := hV 3 _ 28 rfl rfl rfl (Pred.waits_near (by kernel_rfl) (by kernel_rfl))
        simp only at hb
        exact PredS.yields_skip (Pred.wanted_none rfl) (by go_simp) rfl
      · refine ⟨_, 10, _, rfl, rfl, by simp, rfl, fun ρ w => by first | (go_simp; done) | (go_simp; rfl), rfl, rfl, Pred.waits_near (by kernel_rfl) (by kernel_rfl), fun b X g hE hn hV hp hg hb => ?_⟩
        have r32 : b.tmps[32]?.getD undef = .agg (v4 y0 y1 y2 y3) := hV 7 _ 32 rfl rfl rfl (Pred.waits_near (by kernel_rfl) (by kernel_rfl))
        simp only at hb
        exact PredS.yields_skip (Pred.wanted_none rfl) (by go_simp) rfl
      · refine ⟨_, 11, _, rfl, rfl, by simp, rfl, fun ρ w => by first | (go_simp; done) | (go_simp; rfl), rfl, rfl, Pred.waits_near (by kernel_rfl) (by kernel_rfl), fun b X g hE hn hV hp hg hb => ?_⟩
        have r37 : b.tmps[37]?.getD undef = .agg (v4 x0 x1 x2 x3) := hV 12 _ 37 rfl rfl rfl (Pred.waits_near (by kernel_rfl) (by kernel_rfl))
        simp only at hb
        exact PredS.yields_skip (Pred.wanted_none rfl) (by go_simp) rfl
    intro v X hE hv hL
    have e0 : v 0 = .agg (v4 a0_0 a0_1 a0_2 a0_3) := hv 0 _ 25 rfl rfl rfl
    have e1 : v 1 = .agg (v4 a1_0 a1_1 a1_2 a1_3) := hv 1 _ 26 rfl rfl rfl
    have e2 : v 2 = .int .i64 a2 := hv 2 _ 27 rfl rfl rfl
    have e3 : v 3 = .agg (v4 x0 x1 x2 x3) := hv 3 _ 28 rfl rfl rfl
    have e4 : v 4 = .agg (v4 a0_0 a0_1 a0_2 a0_3) := hv 4 _ 29 rfl rfl rfl
    have e5 : v 5 = .agg (v4 a1_0 a1_1 a1_2 a1_3) := hv 5 _ 30 rfl rfl rfl
    have e6 : v 6 = .int .i64 a3 := hv 6 _ 31 rfl rfl rfl
    have e7 : v 7 = .agg (v4 y0 y1 y2 y3) := hv 7 _ 32 rfl rfl rfl
    have e8 : v 8 = .agg (v4 a1_0 a1_1 a1_2 a1_3) := hv 8 _ 33 rfl rfl rfl
    have e9 : v 9 = .agg (v4 a0_0 a0_1 a0_2 a0_3) := hv 9 _ 34 rfl rfl rfl
    have e10 : v 10 = .int .i64 a2 := hv 10 _ 35 rfl rfl rfl
    have e11 : v 11 = .int .i64 (256 - a2) := hv 11 _ 36 rfl rfl rfl
    have e12 : v 12 = .agg (v4 x0 x1 x2 x3) := hv 12 _ 37 rfl rfl rfl
    obtain ⟨⟨g13, e13, o13, q13, n13⟩, ⟨⟨g14, e14, o14, q14, n14⟩, ⟨⟨g15, e15, o15, q15, n15⟩, -⟩⟩⟩ := hL
    replace q13 : blk X g13 = some (.cells (v4 x0 x1 x2 x3) 23 (0, 0)) := q13
    have d14_13 : g14 ≠ g13 := fun e => n13 _ (by simp) (e14.trans (by rw [e]))
    have d15_13 : g15 ≠ g13 := fun e => n13 _ (by simp) (e15.trans (by rw [e]))
    replace q14 : blk X g14 = some (.cells (v4 y0 y1 y2 y3) 23 (0, 0)) := q14
    have d15_14 : g15 ≠ g14 := fun e => n14 _ (by simp) (e15.trans (by rw [e]))
    replace q15 : blk X g15 = some (.cells (v4 x0 x1 x2 x3) 23 (0, 0)) := q15
    clear n13 n14 n15
    simp only [Pred.putsF_cons, Pred.putsF_nil, Nat.zero_add, Nat.reduceAdd, e0, e1, e2, e3, e4, e5, e6, e7, e8, e9, e10, e11, e12, e13, e14, e15, Act.put, List.setIfInBounds_toArray, List.set_cons_zero, List.set_cons_succ]
    clear e0 e1 e2 e3 e4 e5 e6 e7 e8 e9 e10 e11 e12 e13 e14 e15 hv
    have cA := (blk_below hE _ lA).trans bA
    have cB := (blk_below hE _ lB).trans bB
    have sX := hE.size
    have L2 : Below w.heap.size w X := L1.trans (hE.mono L1.size)
    have lA2 := blk_lt cA
    have lB2 := blk_lt cB
    have l13 := blk_lt q13
    have l14 := blk_lt q14
    have l15 := blk_lt q15
    clear hE bA bB lA lB L1 CX CY CZ
    go_wp2_with fail
    go_loopw [12] (fun i wr => ∃ k : Nat, k ≤ 4 ∧ i = .int .i64 k ∧ Below X.heap.size X wr) (fun i _ => 4 - (intOf i).toNat)
    case atStart => exact ⟨0, Nat.zero_le _, rfl, Below.refl _ _⟩
    case round =>
      obtain ⟨k, hk, rfl, hb⟩ := hrel
      by_cases hlt : k < 4
      · obtain ⟨A, B, x, y, m1, m2, fA, fB, fX, fY, fZ⟩ : ∃ A B x y : Int, (A ≤ B → x ≤ y) ∧ (B ≤ A → y ≤ x) ∧ wr.cell? ⟨w.heap.size, k, none⟩ = some (.int .u8 A) ∧ wr.cell? ⟨w.heap.size + 1, k, none⟩ = some (.int .u8 B) ∧ wr.cell? ⟨g13, k, none⟩ = some (.int .u8 x) ∧ wr.cell? ⟨g14, k, none⟩ = some (.int .u8 y) ∧ wr.cell? ⟨g15, k, none⟩ = some (.int .u8 x) := by
          have dA := (blk_below hb _ lA2).trans cA
          have dB := (blk_below hb _ lB2).trans cB
          have dX := (blk_below hb _ l13).trans q13
          have dY := (blk_below hb _ l14).trans q14
          have dZ := (blk_below hb _ l15).trans q15
          have h4 : k = 0 ∨ k = 1 ∨ k = 2 ∨ k = 3 := by omega
          rcases h4 with rfl | rfl | rfl | rfl
          · exact ⟨a0_0, a1_0, x0, y0, MM0.out.1, MM0.out.2, by rw [blk_cell dA]; rfl, by rw [blk_cell dB]; rfl, by rw [blk_cell dX]; rfl, by rw [blk_cell dY]; rfl, by rw [blk_cell dZ]; rfl⟩
          · exact ⟨a0_1, a1_1, x1, y1, MM1.out.1, MM1.out.2, by rw [blk_cell dA]; rfl, by rw [blk_cell dB]; rfl, by rw [blk_cell dX]; rfl, by rw [blk_cell dY]; rfl, by rw [blk_cell dZ]; rfl⟩
          · exact ⟨a0_2, a1_2, x2, y2, MM2.out.1, MM2.out.2, by rw [blk_cell dA]; rfl, by rw [blk_cell dB]; rfl, by rw [blk_cell dX]; rfl, by rw [blk_cell dY]; rfl, by rw [blk_cell dZ]; rfl⟩
          · exact ⟨a0_3, a1_3, x3, y3, MM3.out.1, MM3.out.2, by rw [blk_cell dA]; rfl, by rw [blk_cell dB]; rfl, by rw [blk_cell dX]; rfl, by rw [blk_cell dY]; rfl, by rw [blk_cell dZ]; rfl⟩
        have hlt' : (k : Int) < 4 := by omega
        have sw := hb.size
        rcases Int.lt_trichotomy A B with hAB | hAB | hAB
        · have h1 : decide (A ≤ B) = true := by simp; omega
          have h2 : decide (y < x) = false := by have := m1 (by omega); simp; omega
          have h3 : decide (B ≤ A) = false := by simp; omega
          clear m1 m2 hAB
          go_wp2
          go_quiet (fail)
          go_wp2
          go_roundw
          case rel => exact ⟨k + 1, by omega, by go_num, by repeat' (first | (with_reducible exact Below.refl _ _) | (with_reducible refine Rd.below_step ?_ (by assumption)) | (with_reducible refine Rd.below_alloc ?_ _) | (with_reducible refine Rd.below_drewN ?_ _) | (with_reducible refine Below.drew ?_) | (with_reducible refine Below.setCell ?_ ?_ _) | (with_reducible refine Rd.below_setRow ?_ ?_ _) | go_size | (simp only [World.size_alloc]; omega) | omega)⟩
          case measure => simp [intOf]; omega
        · have h1 : decide (A ≤ B) = true := by simp; omega
          have h2 : decide (y < x) = false := by have := m1 (by omega); simp; omega
          have h3 : decide (B ≤ A) = true := by simp; omega
          have h4 : decide (x < y) = false := by have := m2 (by omega); simp; omega
          clear m1 m2 hAB
          go_wp2
          go_quiet (fail)
          go_wp2
          go_roundw
          case rel => exact ⟨k + 1, by omega, by go_num, by repeat' (first | (with_reducible exact Below.refl _ _) | (with_reducible refine Rd.below_step ?_ (by assumption)) | (with_reducible refine Rd.below_alloc ?_ _) | (with_reducible refine Rd.below_drewN ?_ _) | (with_reducible refine Below.drew ?_) | (with_reducible refine Below.setCell ?_ ?_ _) | (with_reducible refine Rd.below_setRow ?_ ?_ _) | go_size | (simp only [World.size_alloc]; omega) | omega)⟩
          case measure => simp [intOf]; omega
        · have h1 : decide (A ≤ B) = false := by simp; omega
          have h3 : decide (B ≤ A) = true := by simp; omega
          have h4 : decide (x < y) = false := by have := m2 (by omega); simp; omega
          clear m1 m2 hAB
          go_wp2
          go_quiet (fail)
          go_wp2
          go_roundw
          case rel => exact ⟨k + 1, by omega, by go_num, by repeat' (first | (with_reducible exact Below.refl _ _) | (with_reducible refine Rd.below_step ?_ (by assumption)) | (with_reducible refine Rd.below_alloc ?_ _) | (with_reducible refine Rd.below_drewN ?_ _) | (with_reducible refine Below.drew ?_) | (with_reducible refine Below.setCell ?_ ?_ _) | (with_reducible refine Rd.below_setRow ?_ ?_ _) | go_size | (simp only [World.size_alloc]; omega) | omega)⟩
          case measure => simp [intOf]; omega
      · obtain rfl : k = 4 := by omega
        go_wp2_with (go_at_call 8; refine (awake_any _).mono ?_; rintro e w6 ⟨rfl, hb6⟩; have hs := hb6.size)
        go_ret
        exact ⟨rfl, by repeat' (first | (with_reducible exact Below.refl _ _) | (with_reducible refine Rd.below_step ?_ (by assumption)) | (with_reducible refine Rd.below_alloc ?_ _) | (with_reducible refine Rd.below_drewN ?_ _) | (with_reducible refine Below.drew ?_) | (with_reducible refine Below.setCell ?_ ?_ _) | (with_reducible refine Rd.below_setRow ?_ ?_ _) | go_size | (simp only [World.size_alloc]; omega) | omega)⟩
end Go.Proofs.Ythlgokaehkifkaa.HueM
