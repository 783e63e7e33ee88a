/-
  The laws of package shade.
-/
import Derived.Test.YtbogcaiobdhmjaaDoorShB
import Derived.Lib.Hide
import Derived.LoopTactic
import Derived.BigQuiet
namespace Go.Proofs.YtbogcaiobdhmjaaDoor.ShE
open Go.RowKit Rd HueA Go.Proofs.YtbogcaiobdhmjaaDoor.Row ShA ShB
open Go.Proofs.YtbogcaiobdhmjaaDoor.Pred (Is is_stab Stab)
set_option linter.unusedVariables false
set_option linter.unusedSimpArgs false
set_option maxRecDepth 100000
theorem load_col (x : Value) : Instr.loadAt 23 x = loadRow 23 x := rfl
theorem load_got (x : Value) : Instr.loadAt 26 x = loadRow 26 x := rfl
theorem run_load_col (g o : Nat) (W : World) : (loadRow 23 (.pointer (some ⟨g, o, none⟩))).run Tryd.prog W = rowLoad Tryd.prog 23 4 g o W := run_loadRow Tryd.underlying23 rfl (by kernel_rfl) g o W
theorem run_load_got (g o : Nat) (W : World) : (loadRow 26 (.pointer (some ⟨g, o, none⟩))).run Tryd.prog W = rowLoad Tryd.prog 26 7 g o W := run_loadRow Tryd.underlying26 rfl (by kernel_rfl) g o W
attribute [local go_sem ↓] load_col load_got
attribute [local go_sem] run_load_col run_load_got rowLoad_eq blk_alloc_at blk_alloc_old blk_drew blk_drewN Eq.eq_col
theorem got_size (a b c d : Int) (f : Bool) : (gotV a b c d f).size = 7 := rfl
attribute [local go_sem] got_size
theorem times_comm (a b : Int) : timesB a b = timesB b a := by unfold timesB; rw [Int.mul_comm]
theorem times_zero (b : Int) : timesB b 0 = 0 := by unfold timesB; simp
theorem times_le {a b : Int} (ha : B8 a) (hb : B8 b) : timesB b a ≤ a ∧ timesB b a ≤ b := by
  obtain ⟨a1, a2⟩ := ha
  obtain ⟨b1, b2⟩ := hb
  have h1 : b * a ≤ 255 * a := Int.mul_le_mul_of_nonneg_right b2 a1
  have h2 : b * a ≤ b * 255 := Int.mul_le_mul_of_nonneg_left a2 b1
  unfold timesB
  generalize b * a = p at h1 h2 ⊢
  omega
theorem pixel_black (b0 b1 b2 b3 : Int) (f : Bool) (w : World) (h0 : B8 b0) (h1 : B8 b1) (h2 : B8 b2) (h3 : B8 b3) (hT : TB w) :
    Calls Tryd.prog 8 #[.int .i64 3, .agg #[.int .u8 (0), .int .u8 (0), .int .u8 (0), .int .u8 (0)], .agg (gotV b0 b1 b2 b3 f)] w fun e w' => e = .returned (.agg #[.int .u8 (0), .int .u8 (0), .int .u8 (0), .int .u8 (0)]) ∧ Below w.heap.size w w' := by
  have h := pixel_3 0 0 0 0 b0 b1 b2 b3 f w (by decide) (by decide) (by decide) (by decide) h0 h1 h2 h3 hT
  rw [times_zero, times_zero, times_zero, times_zero] at h
  exact h
theorem pixel_turn (a0 a1 a2 a3 b0 b1 b2 b3 : Int) (f : Bool) (w : World) (ha0 : B8 a0) (ha1 : B8 a1) (ha2 : B8 a2) (ha3 : B8 a3) (hb0 : B8 b0) (hb1 : B8 b1) (hb2 : B8 b2) (hb3 : B8 b3) (hT : TB w) :
    Calls Tryd.prog 8 #[.int .i64 3, .agg #[.int .u8 b0, .int .u8 b1, .int .u8 b2, .int .u8 b3], .agg (gotV a0 a1 a2 a3 f)] w fun e w' => e = .returned (.agg #[.int .u8 (timesB b0 a0), .int .u8 (timesB b1 a1), .int .u8 (timesB b2 a2), .int .u8 (timesB b3 a3)]) ∧ Below w.heap.size w w' := by
  have h := pixel_3 b0 b1 b2 b3 a0 a1 a2 a3 f w hb0 hb1 hb2 hb3 ha0 ha1 ha2 ha3 hT
  rw [times_comm a0, times_comm a1, times_comm a2, times_comm a3] at h
  exact h
set_option maxHeartbeats 4000000 in
theorem ShadeDark_walk (a0_0 : Int) (a0_1 : Int) (a0_2 : Int) (a0_3 : Int) (a1_0 : Int) (a1_1 : Int) (a1_2 : Int) (a1_3 : Int) (a2 : Bool) (w : World) (hT : TB w) (w0_0 : (Lit.int .u8 a0_0).wf = true) (w0_1 : (Lit.int .u8 a0_1).wf = true) (w0_2 : (Lit.int .u8 a0_2).wf = true) (w0_3 : (Lit.int .u8 a0_3).wf = true) (w1_0 : (Lit.int .u8 a1_0).wf = true) (w1_1 : (Lit.int .u8 a1_1).wf = true) (w1_2 : (Lit.int .u8 a1_2).wf = true) (w1_3 : (Lit.int .u8 a1_3).wf = true) :
    Calls Tryd.prog 5 #[.agg #[.int .u8 a0_0, .int .u8 a0_1, .int .u8 a0_2, .int .u8 a0_3], .agg #[.int .u8 a1_0, .int .u8 a1_1, .int .u8 a1_2, .int .u8 a1_3], .bool a2] w fun e w' => e = .returned (.bool true) ∧ Below w.heap.size w w' := by
  have pa0 : B8 a0_0 := bounds_u8 w0_0
  have pb0 : B8 a1_0 := bounds_u8 w1_0
  have pa1 : B8 a0_1 := bounds_u8 w0_1
  have pb1 : B8 a1_1 := bounds_u8 w1_1
  have pa2 : B8 a0_2 := bounds_u8 w0_2
  have pb2 : B8 a1_2 := bounds_u8 w1_2
  have pa3 : B8 a0_3 := bounds_u8 w0_3
  have pb3 : B8 a1_3 := bounds_u8 w1_3
  clear w0_0 w1_0 w0_1 w1_1 w0_2 w1_2 w0_3 w1_3
  have h0 := hT.1
  go_enter Tryd.func5, Tryd.ntmps5
  go_upto_region 1 with (fail)
  refine Rd.name_world ?_
  intro W hW
  have bA : blk W w.heap.size = some (.cells #[.int .u8 (a0_0), .int .u8 (a0_1), .int .u8 (a0_2), .int .u8 (a0_3)] 23 (0, 0)) := by rw [hW]; exact blk2_0 w _ _
  have bB : blk W (w.heap.size + 1) = some (.cells #[.int .u8 (a1_0), .int .u8 (a1_1), .int .u8 (a1_2), .int .u8 (a1_3)] 23 (0, 0)) := by rw [hW]; exact blk2_1 w _ _
  have L1 : Below w.heap.size w W := by rw [hW]; repeat' (first | (with_reducible exact Below.refl _ _) | (with_reducible refine Rd.below_step ?_ (by assumption)) | (with_reducible refine Rd.below_alloc ?_ _) | (with_reducible refine Rd.below_drewN ?_ _) | (with_reducible refine Below.drew ?_) | (with_reducible refine Below.setCell ?_ ?_ _) | (with_reducible refine Rd.below_setRow ?_ ?_ _) | go_size | (simp only [World.size_alloc]; omega) | omega)
  have TW := hT.below L1 h0
  have lA := blk_lt bA
  have lB := blk_lt bB
  clear hW
  go_wp2_with fail
  refine (pixel_3 a0_0 a0_1 a0_2 a0_3 a1_0 a1_1 a1_2 a1_3 a2 _ pa0 pa1 pa2 pa3 pb0 pb1 pb2 pb3 TW).mono ?_
  rintro e w1 ⟨rfl, hb1⟩
  have bA1 := (blk_below hb1 _ lA).trans bA
  have bB1 := (blk_below hb1 _ lB).trans bB
  have L2 : Below w.heap.size w w1 := L1.trans (hb1.mono L1.size)
  have lA1 := blk_lt bA1
  have lB1 := blk_lt bB1
  clear bA bB hb1 L1 TW lA lB
  go_upto_region 2 with (fail)
  refine Rd.name_world ?_
  intro V hV
  have cA : blk V w.heap.size = some (.cells #[.int .u8 (a0_0), .int .u8 (a0_1), .int .u8 (a0_2), .int .u8 (a0_3)] 23 (0, 0)) := by rw [hV, blk_alloc_old _ _ _ lA1]; exact bA1
  have cB : blk V (w.heap.size + 1) = some (.cells #[.int .u8 (a1_0), .int .u8 (a1_1), .int .u8 (a1_2), .int .u8 (a1_3)] 23 (0, 0)) := by rw [hV, blk_alloc_old _ _ _ lB1]; exact bB1
  have cC : blk V w1.heap.size = some (.cells #[.int .u8 (timesB a1_0 a0_0), .int .u8 (timesB a1_1 a0_1), .int .u8 (timesB a1_2 a0_2), .int .u8 (timesB a1_3 a0_3)] 23 (0, 0)) := by rw [hV]; exact blk_alloc_at _ _ _ rfl
  have L3 : Below w.heap.size w V := by rw [hV]; repeat' (first | (with_reducible exact Below.refl _ _) | (with_reducible refine Rd.below_step ?_ (by assumption)) | (with_reducible refine Rd.below_alloc ?_ _) | (with_reducible refine Rd.below_drewN ?_ _) | (with_reducible refine Below.drew ?_) | (with_reducible refine Below.setCell ?_ ?_ _) | (with_reducible refine Rd.below_setRow ?_ ?_ _) | go_size | (simp only [World.size_alloc]; omega) | omega)
  have mA := blk_lt cA
  have mB := blk_lt cB
  have mC := blk_lt cC
  clear hV bA1 bB1 lA1 lB1 L2
  go_wp2_with fail
  go_loopw [8] (fun i wr => ∃ k : Nat, k ≤ 4 ∧ i = .int .i64 k ∧ Below V.heap.size V wr) (fun i _ => 4 - (intOf i).toNat)
  case atStart => exact ⟨0, Nat.zero_le _, rfl, Below.refl _ _⟩
  case round =>
    obtain ⟨k, hk, rfl, hb⟩ := hrel
    by_cases hlt : k < 4
    · obtain ⟨a, b, m1, m2, fA, fB, fC⟩ : ∃ a b : Int, timesB b a ≤ a ∧ timesB b a ≤ b ∧ wr.cell? ⟨w.heap.size, k, none⟩ = some (.int .u8 a) ∧ wr.cell? ⟨w.heap.size + 1, k, none⟩ = some (.int .u8 b) ∧ wr.cell? ⟨w1.heap.size, k, none⟩ = some (.int .u8 (timesB b a)) := by
        have dA := (blk_below hb _ mA).trans cA
        have dB := (blk_below hb _ mB).trans cB
        have dC := (blk_below hb _ mC).trans cC
        have h4 : k = 0 ∨ k = 1 ∨ k = 2 ∨ k = 3 := by omega
        rcases h4 with rfl | rfl | rfl | rfl
        · exact ⟨a0_0, a1_0, (times_le pa0 pb0).1, (times_le pa0 pb0).2, by rw [blk_cell dA]; rfl, by rw [blk_cell dB]; rfl, by rw [blk_cell dC]; rfl⟩
        · exact ⟨a0_1, a1_1, (times_le pa1 pb1).1, (times_le pa1 pb1).2, by rw [blk_cell dA]; rfl, by rw [blk_cell dB]; rfl, by rw [blk_cell dC]; rfl⟩
        · exact ⟨a0_2, a1_2, (times_le pa2 pb2).1, (times_le pa2 pb2).2, by rw [blk_cell dA]; rfl, by rw [blk_cell dB]; rfl, by rw [blk_cell dC]; rfl⟩
        · exact ⟨a0_3, a1_3, (times_le pa3 pb3).1, (times_le pa3 pb3).2, by rw [blk_cell dA]; rfl, by rw [blk_cell dB]; rfl, by rw [blk_cell dC]; rfl⟩
      have hlt' : (k : Int) < 4 := by omega
      have sw := hb.size
      generalize timesB b a = c at m1 m2 fC
      have h1 : decide (a < c) = false := by simp; omega
      have h2 : decide (b < c) = false := by simp; omega
      have h3 : decide ((if b < a then b else a) < c) = false := by simp; split <;> omega
      have h5 : decide ((if a < b then a else b) < c) = false := by simp; split <;> omega
      have h6 : decide (min a b < c) = false := by simp; omega
      have h7 : ¬ c > min a b := by omega
      clear m1 m2
      go_wp2
      go_quiet (fail)
      go_wp2
      all_goals
        go_roundw
        case rel => exact ⟨k + 1, by omega, by go_num, by repeat' (first | (with_reducible exact Below.refl _ _) | (with_reducible refine Rd.below_step ?_ (by assumption)) | (with_reducible refine Rd.below_alloc ?_ _) | (with_reducible refine Rd.below_drewN ?_ _) | (with_reducible refine Below.drew ?_) | (with_reducible refine Below.setCell ?_ ?_ _) | (with_reducible refine Rd.below_setRow ?_ ?_ _) | go_size | (simp only [World.size_alloc]; omega) | omega)⟩
        case measure => simp [intOf]; omega
    · obtain rfl : k = 4 := by omega
      have dA := (blk_below hb _ mA).trans cA
      have dB := (blk_below hb _ mB).trans cB
      have dC := (blk_below hb _ mC).trans cC
      have L4 : Below w.heap.size w wr := L3.trans (hb.mono L3.size)
      clear cA cB cC mA mB mC hb L3
      go_upto_region 7 with (fail)
      refine Rd.name_world ?_
      intro W' hW
      have bA : blk W' w.heap.size = some (.cells #[.int .u8 (a0_0), .int .u8 (a0_1), .int .u8 (a0_2), .int .u8 (a0_3)] 23 (0, 0)) := by rw [hW]; exact dA
      have bB : blk W' (w.heap.size + 1) = some (.cells #[.int .u8 (a1_0), .int .u8 (a1_1), .int .u8 (a1_2), .int .u8 (a1_3)] 23 (0, 0)) := by rw [hW]; exact dB
      have bC : blk W' w1.heap.size = some (.cells #[.int .u8 (timesB a1_0 a0_0), .int .u8 (timesB a1_1 a0_1), .int .u8 (timesB a1_2 a0_2), .int .u8 (timesB a1_3 a0_3)] 23 (0, 0)) := by rw [hW]; exact dC
      have L5 : Below w.heap.size w W' := by rw [hW]; exact L4
      have TW := hT.below L5 h0
      have lA := blk_lt bA
      have lB := blk_lt bB
      have lC := blk_lt bC
      have lW : 0 < W'.heap.size := TW.1
      clear hW dA dB dC L4
      refine Pred.region_vals (Pred.Of [
          Is (.agg #[.int .u8 (0), .int .u8 (0), .int .u8 (0), .int .u8 (0)]),
          Is (.agg #[.int .u8 (a1_0), .int .u8 (a1_1), .int .u8 (a1_2), .int .u8 (a1_3)]),
          Is (.agg (gotV (a1_0) (a1_1) (a1_2) (a1_3) false)),
          Is (.agg #[.int .u8 (0), .int .u8 (0), .int .u8 (0), .int .u8 (0)]),
          Is (.agg #[.int .u8 (0), .int .u8 (0), .int .u8 (0), .int .u8 (0)]),
          Is (.bool true),
          Is (.bool true),
          Is (.agg #[.int .u8 (timesB a1_0 a0_0), .int .u8 (timesB a1_1 a0_1), .int .u8 (timesB a1_2 a0_2), .int .u8 (timesB a1_3 a0_3)]),
          Is (.agg #[.int .u8 (a1_0), .int .u8 (a1_1), .int .u8 (a1_2), .int .u8 (a1_3)]),
          Is (.agg #[.int .u8 (a0_0), .int .u8 (a0_1), .int .u8 (a0_2), .int .u8 (a0_3)]),
          Is (.bool a2),
          Is (.agg (gotV (a0_0) (a0_1) (a0_2) (a0_3) a2)),
          Is (.agg #[.int .u8 (timesB a1_0 a0_0), .int .u8 (timesB a1_1 a0_1), .int .u8 (timesB a1_2 a0_2), .int .u8 (timesB a1_3 a0_3)]),
          Is (.bool true),
          Is (.bool true),
          Is (.bool true),
          Is (.bool true),
          Is (.bool true),
          Is (.bool true)]) (by kernel_rfl) (by kernel_rfl) (by kernel_rfl) (Pred.of_stab ?_) ?_ ?_
      · exact ⟨is_stab _, is_stab _, is_stab _, is_stab _, is_stab _, is_stab _, is_stab _, is_stab _, is_stab _, is_stab _, is_stab _, is_stab _, is_stab _, is_stab _, is_stab _, is_stab _, is_stab _, is_stab _, is_stab _, trivial⟩
      · refine ⟨?_, ?_, ?_, ?_, ?_, ?_, ?_, ?_, ?_, ?_, ?_, ?_, ?_, ?_, ?_, ?_, ?_, ?_, ?_, trivial⟩
        · intro b X hE hd hn hV
          exact Pred.yields_run (v := .agg #[.int .u8 (0), .int .u8 (0), .int .u8 (0), .int .u8 (0)]) (Pred.wanted_none rfl) (by first | (go_simp; done) | (go_simp; rfl)) ⟨Pred.ext_refl _ _, rfl⟩
        · intro b X hE hd hn hV
          have r4 : b.tmps[4]?.getD undef = .pointer (some ⟨w.heap.size + 1, 0, none⟩) := (hn 4 (by kernel_rfl)).trans rfl
          have q := (blk_below hE _ lB).trans bB
          exact Pred.yields_run (v := .agg #[.int .u8 (a1_0), .int .u8 (a1_1), .int .u8 (a1_2), .int .u8 (a1_3)]) (Pred.wanted_none rfl) (by go_simp) ⟨Pred.ext_refl _ _, rfl⟩
        · intro b X hE hd hn hV
          have r30 : b.tmps[30]?.getD undef = .agg #[.int .u8 (a1_0), .int .u8 (a1_1), .int .u8 (a1_2), .int .u8 (a1_3)] := hV 1 _ 30 rfl rfl (Pred.waits_near (by kernel_rfl) (by kernel_rfl))
          exact Pred.yields_run (v := .agg (gotV (a1_0) (a1_1) (a1_2) (a1_3) false)) (Pred.wanted_none rfl) (by first | (go_simp; done) | (go_simp; rfl)) ⟨Pred.ext_refl _ _, rfl⟩
        · intro b X hE hd hn hV
          have r29 : b.tmps[29]?.getD undef = .agg #[.int .u8 (0), .int .u8 (0), .int .u8 (0), .int .u8 (0)] := hV 0 _ 29 rfl rfl (Pred.waits_near (by kernel_rfl) (by kernel_rfl))
          have r31 : b.tmps[31]?.getD undef = .agg (gotV (a1_0) (a1_1) (a1_2) (a1_3) false) := hV 2 _ 31 rfl rfl (Pred.waits_near (by kernel_rfl) (by kernel_rfl))
          have tb := TW.below hE lW
          refine Pred.yields_call (f := 8) (args := #[.int .i64 3, .agg #[.int .u8 (0), .int .u8 (0), .int .u8 (0), .int .u8 (0)], .agg (gotV (a1_0) (a1_1) (a1_2) (a1_3) false)]) (Pred.wanted_none rfl) (by go_simp) ?_
          exact (pixel_black a1_0 a1_1 a1_2 a1_3 false _ pb0 pb1 pb2 pb3 tb).mono fun e w2 ⟨he, hb⟩ => ⟨_, he, Pred.ext_below hb hE.size, rfl⟩
        · intro b X hE hd hn hV
          exact Pred.yields_run (v := .agg #[.int .u8 (0), .int .u8 (0), .int .u8 (0), .int .u8 (0)]) (Pred.wanted_none rfl) (by first | (go_simp; done) | (go_simp; rfl)) ⟨Pred.ext_refl _ _, rfl⟩
        · intro b X hE hd hn hV
          have r32 : b.tmps[32]?.getD undef = .agg #[.int .u8 (0), .int .u8 (0), .int .u8 (0), .int .u8 (0)] := hV 3 _ 32 rfl rfl (Pred.waits_near (by kernel_rfl) (by kernel_rfl))
          have r33 : b.tmps[33]?.getD undef = .agg #[.int .u8 (0), .int .u8 (0), .int .u8 (0), .int .u8 (0)] := hV 4 _ 33 rfl rfl (Pred.waits_near (by kernel_rfl) (by kernel_rfl))
          exact Pred.yields_run (v := .bool true) (Pred.wanted_none rfl) (by go_simp) ⟨Pred.ext_refl _ _, rfl⟩
        · intro b X hE hd hn hV
          have r34 : b.tmps[34]?.getD undef = .bool true := hV 5 _ 34 rfl rfl (Pred.waits_near (by kernel_rfl) (by kernel_rfl))
          exact Pred.yields_run (v := .bool true) (Pred.wanted_none rfl) (by go_simp) ⟨Pred.ext_refl _ _, rfl⟩
        · intro b X hE hd hn hV
          have r7 : b.tmps[7]?.getD undef = .pointer (some ⟨w1.heap.size, 0, none⟩) := (hn 7 (by kernel_rfl)).trans rfl
          have r35 : b.tmps[35]?.getD undef = .bool true := hV 6 _ 35 rfl rfl (Pred.waits_near (by kernel_rfl) (by kernel_rfl))
          have q := (blk_below hE _ lC).trans bC
          exact Pred.yields_run (v := .agg #[.int .u8 (timesB a1_0 a0_0), .int .u8 (timesB a1_1 a0_1), .int .u8 (timesB a1_2 a0_2), .int .u8 (timesB a1_3 a0_3)]) ((Pred.wanted_at (g := 6) (d := 35) (f := true) rfl rfl r35).trans rfl) (by go_simp) ⟨Pred.ext_refl _ _, rfl⟩
        · intro b X hE hd hn hV
          have r4 : b.tmps[4]?.getD undef = .pointer (some ⟨w.heap.size + 1, 0, none⟩) := (hn 4 (by kernel_rfl)).trans rfl
          have r35 : b.tmps[35]?.getD undef = .bool true := hV 6 _ 35 rfl rfl (Pred.waits_near (by kernel_rfl) (by kernel_rfl))
          have q := (blk_below hE _ lB).trans bB
          exact Pred.yields_run (v := .agg #[.int .u8 (a1_0), .int .u8 (a1_1), .int .u8 (a1_2), .int .u8 (a1_3)]) ((Pred.wanted_at (g := 6) (d := 35) (f := true) rfl rfl r35).trans rfl) (by go_simp) ⟨Pred.ext_refl _ _, rfl⟩
        · intro b X hE hd hn hV
          have r3 : b.tmps[3]?.getD undef = .pointer (some ⟨w.heap.size, 0, none⟩) := (hn 3 (by kernel_rfl)).trans rfl
          have r35 : b.tmps[35]?.getD undef = .bool true := hV 6 _ 35 rfl rfl (Pred.waits_near (by kernel_rfl) (by kernel_rfl))
          have q := (blk_below hE _ lA).trans bA
          exact Pred.yields_run (v := .agg #[.int .u8 (a0_0), .int .u8 (a0_1), .int .u8 (a0_2), .int .u8 (a0_3)]) ((Pred.wanted_at (g := 6) (d := 35) (f := true) rfl rfl r35).trans rfl) (by go_simp) ⟨Pred.ext_refl _ _, rfl⟩
        · intro b X hE hd hn hV
          have r2 : b.tmps[2]?.getD undef = .bool a2 := (hn 2 (by kernel_rfl)).trans rfl
          have r35 : b.tmps[35]?.getD undef = .bool true := hV 6 _ 35 rfl rfl (Pred.waits_near (by kernel_rfl) (by kernel_rfl))
          exact Pred.yields_run (v := .bool a2) ((Pred.wanted_at (g := 6) (d := 35) (f := true) rfl rfl r35).trans rfl) (by go_simp) ⟨Pred.ext_refl _ _, rfl⟩
        · intro b X hE hd hn hV
          have r38 : b.tmps[38]?.getD undef = .agg #[.int .u8 (a0_0), .int .u8 (a0_1), .int .u8 (a0_2), .int .u8 (a0_3)] := hV 9 _ 38 rfl rfl (Pred.waits_near (by kernel_rfl) (by kernel_rfl))
          have r39 : b.tmps[39]?.getD undef = .bool a2 := hV 10 _ 39 rfl rfl (Pred.waits_near (by kernel_rfl) (by kernel_rfl))
          have r35 : b.tmps[35]?.getD undef = .bool true := hV 6 _ 35 rfl rfl (Pred.waits_near (by kernel_rfl) (by kernel_rfl))
          exact Pred.yields_run (v := .agg (gotV (a0_0) (a0_1) (a0_2) (a0_3) a2)) ((Pred.wanted_at (g := 6) (d := 35) (f := true) rfl rfl r35).trans rfl) (by first | (go_simp; done) | (go_simp; rfl)) ⟨Pred.ext_refl _ _, rfl⟩
        · intro b X hE hd hn hV
          have r37 : b.tmps[37]?.getD undef = .agg #[.int .u8 (a1_0), .int .u8 (a1_1), .int .u8 (a1_2), .int .u8 (a1_3)] := hV 8 _ 37 rfl rfl (Pred.waits_near (by kernel_rfl) (by kernel_rfl))
          have r40 : b.tmps[40]?.getD undef = .agg (gotV (a0_0) (a0_1) (a0_2) (a0_3) a2) := hV 11 _ 40 rfl rfl (Pred.waits_near (by kernel_rfl) (by kernel_rfl))
          have r35 : b.tmps[35]?.getD undef = .bool true := hV 6 _ 35 rfl rfl (Pred.waits_near (by kernel_rfl) (by kernel_rfl))
          have tb := TW.below hE lW
          refine Pred.yields_call (f := 8) (args := #[.int .i64 3, .agg #[.int .u8 (a1_0), .int .u8 (a1_1), .int .u8 (a1_2), .int .u8 (a1_3)], .agg (gotV (a0_0) (a0_1) (a0_2) (a0_3) a2)]) ((Pred.wanted_at (g := 6) (d := 35) (f := true) rfl rfl r35).trans rfl) (by go_simp) ?_
          exact (pixel_turn a0_0 a0_1 a0_2 a0_3 a1_0 a1_1 a1_2 a1_3 a2 _ pa0 pa1 pa2 pa3 pb0 pb1 pb2 pb3 tb).mono fun e w2 ⟨he, hb⟩ => ⟨_, he, Pred.ext_below hb hE.size, rfl⟩
        · intro b X hE hd hn hV
          have r36 : b.tmps[36]?.getD undef = .agg #[.int .u8 (timesB a1_0 a0_0), .int .u8 (timesB a1_1 a0_1), .int .u8 (timesB a1_2 a0_2), .int .u8 (timesB a1_3 a0_3)] := hV 7 _ 36 rfl rfl (Pred.waits_near (by kernel_rfl) (by kernel_rfl))
          have r41 : b.tmps[41]?.getD undef = .agg #[.int .u8 (timesB a1_0 a0_0), .int .u8 (timesB a1_1 a0_1), .int .u8 (timesB a1_2 a0_2), .int .u8 (timesB a1_3 a0_3)] := hV 12 _ 41 rfl rfl (Pred.waits_near (by kernel_rfl) (by kernel_rfl))
          have r35 : b.tmps[35]?.getD undef = .bool true := hV 6 _ 35 rfl rfl (Pred.waits_near (by kernel_rfl) (by kernel_rfl))
          exact Pred.yields_run (v := .bool true) ((Pred.wanted_at (g := 6) (d := 35) (f := true) rfl rfl r35).trans rfl) (by go_simp) ⟨Pred.ext_refl _ _, rfl⟩
        · intro b X hE hd hn hV
          have r35 : b.tmps[35]?.getD undef = .bool true := hV 6 _ 35 rfl rfl (Pred.waits_near (by kernel_rfl) (by kernel_rfl))
          have r42 : b.tmps[42]?.getD undef = .bool true := hV 13 _ 42 rfl rfl (Pred.waits_near (by kernel_rfl) (by kernel_rfl))
          exact Pred.yields_run (v := .bool true) (Pred.wanted_none rfl) (by go_simp) ⟨Pred.ext_refl _ _, rfl⟩
        · intro b X hE hd hn hV
          have r43 : b.tmps[43]?.getD undef = .bool true := hV 14 _ 43 rfl rfl (Pred.waits_near (by kernel_rfl) (by kernel_rfl))
          exact Pred.yields_run (v := .bool true) (Pred.wanted_none rfl) (by go_simp) ⟨Pred.ext_refl _ _, rfl⟩
        · intro b X hE hd hn hV
          have r44 : b.tmps[44]?.getD undef = .bool true := hV 15 _ 44 rfl rfl (Pred.waits_near (by kernel_rfl) (by kernel_rfl))
          have tb := TW.below hE lW
          refine Pred.yields_call (f := 10) (args := #[]) ((Pred.wanted_at (g := 15) (d := 44) (f := true) rfl rfl r44).trans rfl) (by go_simp) ?_
          exact (awake_any _ tb).mono fun e w2 ⟨he, hb⟩ => ⟨_, he, Pred.ext_below hb hE.size, rfl⟩
        · intro b X hE hd hn hV
          have r44 : b.tmps[44]?.getD undef = .bool true := hV 15 _ 44 rfl rfl (Pred.waits_near (by kernel_rfl) (by kernel_rfl))
          have r45 : b.tmps[45]?.getD undef = .bool true := hV 16 _ 45 rfl rfl (Pred.waits_near (by kernel_rfl) (by kernel_rfl))
          exact Pred.yields_run (v := .bool true) (Pred.wanted_none rfl) (by go_simp) ⟨Pred.ext_refl _ _, rfl⟩
        · intro b X hE hd hn hV
          have r46 : b.tmps[46]?.getD undef = .bool true := hV 17 _ 46 rfl rfl (Pred.waits_near (by kernel_rfl) (by kernel_rfl))
          exact Pred.yields_run (v := .bool true) (Pred.wanted_none rfl) (by go_simp) ⟨Pred.ext_refl _ _, rfl⟩
      intro v X hE hv
      have e0 : v 0 = .agg #[.int .u8 (0), .int .u8 (0), .int .u8 (0), .int .u8 (0)] := hv 0 _ 29 rfl rfl
      have e1 : v 1 = .agg #[.int .u8 (a1_0), .int .u8 (a1_1), .int .u8 (a1_2), .int .u8 (a1_3)] := hv 1 _ 30 rfl rfl
      have e2 : v 2 = .agg (gotV (a1_0) (a1_1) (a1_2) (a1_3) false) := hv 2 _ 31 rfl rfl
      have e3 : v 3 = .agg #[.int .u8 (0), .int .u8 (0), .int .u8 (0), .int .u8 (0)] := hv 3 _ 32 rfl rfl
      have e4 : v 4 = .agg #[.int .u8 (0), .int .u8 (0), .int .u8 (0), .int .u8 (0)] := hv 4 _ 33 rfl rfl
      have e5 : v 5 = .bool true := hv 5 _ 34 rfl rfl
      have e6 : v 6 = .bool true := hv 6 _ 35 rfl rfl
      have e7 : v 7 = .agg #[.int .u8 (timesB a1_0 a0_0), .int .u8 (timesB a1_1 a0_1), .int .u8 (timesB a1_2 a0_2), .int .u8 (timesB a1_3 a0_3)] := hv 7 _ 36 rfl rfl
      have e8 : v 8 = .agg #[.int .u8 (a1_0), .int .u8 (a1_1), .int .u8 (a1_2), .int .u8 (a1_3)] := hv 8 _ 37 rfl rfl
      have e9 : v 9 = .agg #[.int .u8 (a0_0), .int .u8 (a0_1), .int .u8 (a0_2), .int .u8 (a0_3)] := hv 9 _ 38 rfl rfl
      have e10 : v 10 = .bool a2 := hv 10 _ 39 rfl rfl
      have e11 : v 11 = .agg (gotV (a0_0) (a0_1) (a0_2) (a0_3) a2) := hv 11 _ 40 rfl rfl
      have e12 : v 12 = .agg #[.int .u8 (timesB a1_0 a0_0), .int .u8 (timesB a1_1 a0_1), .int .u8 (timesB a1_2 a0_2), .int .u8 (timesB a1_3 a0_3)] := hv 12 _ 41 rfl rfl
      have e13 : v 13 = .bool true := hv 13 _ 42 rfl rfl
      have e14 : v 14 = .bool true := hv 14 _ 43 rfl rfl
      have e15 : v 15 = .bool true := hv 15 _ 44 rfl rfl
      have e16 : v 16 = .bool true := hv 16 _ 45 rfl rfl
      have e17 : v 17 = .bool true := hv 17 _ 46 rfl rfl
      have e18 : v 18 = .bool true := hv 18 _ 6 rfl rfl
      simp only [Pred.putsF_cons, Pred.putsF_nil, Nat.zero_add, Nat.reduceAdd, e0, e1, e2, e3, e4, e5, e6, e7, e8, e9, e10, e11, e12, e13, e14, e15, e16, e17, e18, Act.put, List.setIfInBounds_toArray, List.set_cons_zero, List.set_cons_succ]
      clear e0 e1 e2 e3 e4 e5 e6 e7 e8 e9 e10 e11 e12 e13 e14 e15 e16 e17 e18 hv
      have L6 : Below w.heap.size w X := L5.trans (hE.mono L5.size)
      go_wp2
      go_ret
      exact ⟨rfl, L6⟩
end Go.Proofs.YtbogcaiobdhmjaaDoor.ShE
