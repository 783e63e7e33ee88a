/-
  The laws of package shade.
-/
import Derived.Test.YtbogcaiobdhmjaaDoorShB
namespace Go.Proofs.YtbogcaiobdhmjaaDoor.ShC
open Go.RowKit Rd HueA Go.Proofs.YtbogcaiobdhmjaaDoor.Row ShA ShB
open Go.Proofs.YtbogcaiobdhmjaaDoor.Pred (Is is_stab Stab)
set_option linter.unusedVariables false
set_option linter.unusedSimpArgs false
set_option maxRecDepth 100000
theorem load_col (x : Value) : Instr.loadAt 23 x = loadRow 23 x := rfl
theorem load_got (x : Value) : Instr.loadAt 26 x = loadRow 26 x := rfl
theorem run_load_col (g o : Nat) (W : World) : (loadRow 23 (.pointer (some ⟨g, o, none⟩))).run Tryd.prog W = rowLoad Tryd.prog 23 4 g o W := run_loadRow Tryd.underlying23 rfl (by kernel_rfl) g o W
theorem run_load_got (g o : Nat) (W : World) : (loadRow 26 (.pointer (some ⟨g, o, none⟩))).run Tryd.prog W = rowLoad Tryd.prog 26 7 g o W := run_loadRow Tryd.underlying26 rfl (by kernel_rfl) g o W
attribute [local go_sem ↓] load_col load_got
attribute [local go_sem] run_load_col run_load_got rowLoad_eq blk_alloc_at blk_alloc_old blk_drew blk_drewN Eq.eq_col
theorem got_size (a b c d : Int) (f : Bool) : (gotV a b c d f).size = 7 := rfl
attribute [local go_sem] got_size
set_option maxHeartbeats 4000000 in
theorem ShadeTells_walk (a0 : Int) (a1_0 : Int) (a1_1 : Int) (a1_2 : Int) (a1_3 : Int) (a2_0 : Int) (a2_1 : Int) (a2_2 : Int) (a2_3 : Int) (a3 : Bool) (w : World) (hT : TB w) (w0 : (Lit.int .i64 a0).wf = true) (w1_0 : (Lit.int .u8 a1_0).wf = true) (w1_1 : (Lit.int .u8 a1_1).wf = true) (w1_2 : (Lit.int .u8 a1_2).wf = true) (w1_3 : (Lit.int .u8 a1_3).wf = true) (w2_0 : (Lit.int .u8 a2_0).wf = true) (w2_1 : (Lit.int .u8 a2_1).wf = true) (w2_2 : (Lit.int .u8 a2_2).wf = true) (w2_3 : (Lit.int .u8 a2_3).wf = true) :
    Calls Tryd.prog 3 #[.int .i64 a0, .agg #[.int .u8 a1_0, .int .u8 a1_1, .int .u8 a1_2, .int .u8 a1_3], .agg #[.int .u8 a2_0, .int .u8 a2_1, .int .u8 a2_2, .int .u8 a2_3], .bool a3] w fun e w' => e = .returned (.bool true) ∧ Below w.heap.size w w' := by
  have pa0 : B8 a1_0 := bounds_u8 w1_0
  have pc0 : B8 a2_0 := bounds_u8 w2_0
  have pa1 : B8 a1_1 := bounds_u8 w1_1
  have pc1 : B8 a2_1 := bounds_u8 w2_1
  have pa2 : B8 a1_2 := bounds_u8 w1_2
  have pc2 : B8 a2_2 := bounds_u8 w2_2
  have pa3 : B8 a1_3 := bounds_u8 w1_3
  have pc3 : B8 a2_3 := bounds_u8 w2_3
  clear w0 w1_0 w2_0 w1_1 w2_1 w1_2 w2_2 w1_3 w2_3
  have h0 := hT.1
  by_cases g1 : 1 ≤ a0
  · by_cases g4 : a0 ≤ 4
    · by_cases n1 : a0 = 1
      · have hm : mayS a0 = true := by simp [mayS]; omega
        have ha : asksS a0 = false := by simp [asksS, n1]
        go_enter Tryd.func3, Tryd.ntmps3
        go_upto_region 3 with (fail)
        refine Rd.name_world ?_
        intro W hW
        have bA : blk W w.heap.size = some (.cells #[.int .u8 (a1_0), .int .u8 (a1_1), .int .u8 (a1_2), .int .u8 (a1_3)] 23 (0, 0)) := by rw [hW, blk_alloc_old _ _ _ (by simp; omega)]; exact blk2_0 w _ _
        have bG : blk W (w.heap.size + 1 + 1) = some (.cells (gotV a2_0 a2_1 a2_2 a2_3 a3) 26 (0, 0)) := by rw [hW]; exact blk_alloc_at _ _ _ (by simp)
        have bC : blk W (w.heap.size + 1) = some (.cells #[.int .u8 (a2_0), .int .u8 (a2_1), .int .u8 (a2_2), .int .u8 (a2_3)] 23 (0, 0)) := by rw [hW, blk_alloc_old _ _ _ (by simp)]; exact blk2_1 w _ _
        have L1 : Below w.heap.size w W := by rw [hW]; repeat' (first | (with_reducible exact Below.refl _ _) | (with_reducible refine Rd.below_step ?_ (by assumption)) | (with_reducible refine Rd.below_alloc ?_ _) | (with_reducible refine Rd.below_drewN ?_ _) | (with_reducible refine Below.drew ?_) | (with_reducible refine Below.setCell ?_ ?_ _) | (with_reducible refine Rd.below_setRow ?_ ?_ _) | go_size | (simp only [World.size_alloc]; omega) | omega)
        have TW := hT.below L1 h0
        have lA := blk_lt bA
        have lC := blk_lt bC
        have lG := blk_lt bG
        have lW : 0 < W.heap.size := TW.1
        clear hW
        refine Pred.region_vals (Pred.Of [
            Is (.int .i64 a0),
            Is (.bool true),
            Is (.bool true),
            Is (.bool true),
            Is (.bool true),
            Is (.int .i64 a0),
            Is (.bool false),
            Is (.bool true),
            Is (.bool true),
            Is (.int .i64 a0),
            Is (.bool false),
            Is (.bool false),
            Is (.bool true),
            Is (.bool true),
            Is (.bool true),
            Is (.int .i64 a0),
            Is (.agg #[.int .u8 (a1_0), .int .u8 (a1_1), .int .u8 (a1_2), .int .u8 (a1_3)]),
            Is (.agg (gotV (a2_0) (a2_1) (a2_2) (a2_3) a3)),
            Is (.agg #[.int .u8 (pixK a0 a1_0 a2_0 a3), .int .u8 (pixK a0 a1_1 a2_1 a3), .int .u8 (pixK a0 a1_2 a2_2 a3), .int .u8 (pixK a0 a1_3 a2_3 a3)]),
            Is (.int .i64 a0),
            Is (.agg #[.int .u8 (a1_0), .int .u8 (a1_1), .int .u8 (a1_2), .int .u8 (a1_3)]),
            Is (.agg #[.int .u8 (a2_0), .int .u8 (a2_1), .int .u8 (a2_2), .int .u8 (a2_3)]),
            Is (.bool a3),
            Is (.agg (gotV (a2_0) (a2_1) (a2_2) (a2_3) a3)),
            Is (.agg #[.int .u8 (pixK a0 a1_0 a2_0 a3), .int .u8 (pixK a0 a1_1 a2_1 a3), .int .u8 (pixK a0 a1_2 a2_2 a3), .int .u8 (pixK a0 a1_3 a2_3 a3)]),
            Is (.bool true),
            Is (.bool true),
            Is (.bool true),
            Is (.bool true),
            Is (.bool true),
            Is (.bool true)]) (by kernel_rfl) (by kernel_rfl) (by kernel_rfl) (Pred.of_stab ?_) ?_ ?_
        · exact ⟨is_stab _, is_stab _, is_stab _, is_stab _, is_stab _, is_stab _, is_stab _, is_stab _, is_stab _, is_stab _, is_stab _, is_stab _, is_stab _, is_stab _, is_stab _, is_stab _, is_stab _, is_stab _, is_stab _, is_stab _, is_stab _, is_stab _, is_stab _, is_stab _, is_stab _, is_stab _, is_stab _, is_stab _, is_stab _, is_stab _, is_stab _, trivial⟩
        · refine ⟨?_, ?_, ?_, ?_, ?_, ?_, ?_, ?_, ?_, ?_, ?_, ?_, ?_, ?_, ?_, ?_, ?_, ?_, ?_, ?_, ?_, ?_, ?_, ?_, ?_, ?_, ?_, ?_, ?_, ?_, ?_, trivial⟩
          · intro b X hE hd hn hV
            have r0 : b.tmps[0]?.getD undef = .int .i64 a0 := (hn 0 (by kernel_rfl)).trans rfl
            exact Pred.yields_run (v := .int .i64 a0) (Pred.wanted_none rfl) (by go_simp) ⟨Pred.ext_refl _ _, rfl⟩
          · intro b X hE hd hn hV
            have r20 : b.tmps[20]?.getD undef = .int .i64 a0 := hV 0 _ 20 rfl rfl (Pred.waits_near (by kernel_rfl) (by kernel_rfl))
            have tb := TW.below hE lW
            refine Pred.yields_call (f := 6) (args := #[.int .i64 a0]) (Pred.wanted_none rfl) (by go_simp) ?_
            exact (mayQ a0 true hm _).mono fun e w2 ⟨he, hb⟩ => ⟨_, he, Pred.ext_below hb hE.size, rfl⟩
          · intro b X hE hd hn hV
            have r10 : b.tmps[10]?.getD undef = .bool true := (hn 10 (by kernel_rfl)).trans rfl
            exact Pred.yields_run (v := .bool true) (Pred.wanted_none rfl) (by go_simp) ⟨Pred.ext_refl _ _, rfl⟩
          · intro b X hE hd hn hV
            have r21 : b.tmps[21]?.getD undef = .bool true := hV 1 _ 21 rfl rfl (Pred.waits_near (by kernel_rfl) (by kernel_rfl))
            have r22 : b.tmps[22]?.getD undef = .bool true := hV 2 _ 22 rfl rfl (Pred.waits_near (by kernel_rfl) (by kernel_rfl))
            exact Pred.yields_run (v := .bool true) (Pred.wanted_none rfl) (by go_simp) ⟨Pred.ext_refl _ _, rfl⟩
          · intro b X hE hd hn hV
            have r23 : b.tmps[23]?.getD undef = .bool true := hV 3 _ 23 rfl rfl (Pred.waits_near (by kernel_rfl) (by kernel_rfl))
            exact Pred.yields_run (v := .bool true) (Pred.wanted_none rfl) (by go_simp) ⟨Pred.ext_refl _ _, rfl⟩
          · intro b X hE hd hn hV
            have r0 : b.tmps[0]?.getD undef = .int .i64 a0 := (hn 0 (by kernel_rfl)).trans rfl
            have r24 : b.tmps[24]?.getD undef = .bool true := hV 4 _ 24 rfl rfl (Pred.waits_near (by kernel_rfl) (by kernel_rfl))
            exact Pred.yields_run (v := .int .i64 a0) ((Pred.wanted_at (g := 4) (d := 24) (f := true) rfl rfl r24).trans rfl) (by go_simp) ⟨Pred.ext_refl _ _, rfl⟩
          · intro b X hE hd hn hV
            have r25 : b.tmps[25]?.getD undef = .int .i64 a0 := hV 5 _ 25 rfl rfl (Pred.waits_near (by kernel_rfl) (by kernel_rfl))
            have r24 : b.tmps[24]?.getD undef = .bool true := hV 4 _ 24 rfl rfl (Pred.waits_near (by kernel_rfl) (by kernel_rfl))
            have tb := TW.below hE lW
            refine Pred.yields_call (f := 7) (args := #[.int .i64 a0]) ((Pred.wanted_at (g := 4) (d := 24) (f := true) rfl rfl r24).trans rfl) (by go_simp) ?_
            exact (asksQ a0 false ha _ tb).mono fun e w2 ⟨he, hb⟩ => ⟨_, he, Pred.ext_below hb hE.size, rfl⟩
          · intro b X hE hd hn hV
            have r10 : b.tmps[10]?.getD undef = .bool true := (hn 10 (by kernel_rfl)).trans rfl
            have r24 : b.tmps[24]?.getD undef = .bool true := hV 4 _ 24 rfl rfl (Pred.waits_near (by kernel_rfl) (by kernel_rfl))
            exact Pred.yields_run (v := .bool true) ((Pred.wanted_at (g := 4) (d := 24) (f := true) rfl rfl r24).trans rfl) (by go_simp) ⟨Pred.ext_refl _ _, rfl⟩
          · intro b X hE hd hn hV
            have r27 : b.tmps[27]?.getD undef = .bool true := hV 7 _ 27 rfl rfl (Pred.waits_near (by kernel_rfl) (by kernel_rfl))
            have r24 : b.tmps[24]?.getD undef = .bool true := hV 4 _ 24 rfl rfl (Pred.waits_near (by kernel_rfl) (by kernel_rfl))
            exact Pred.yields_run (v := .bool true) ((Pred.wanted_at (g := 4) (d := 24) (f := true) rfl rfl r24).trans rfl) (by go_simp) ⟨Pred.ext_refl _ _, rfl⟩
          · intro b X hE hd hn hV
            have r0 : b.tmps[0]?.getD undef = .int .i64 a0 := (hn 0 (by kernel_rfl)).trans rfl
            have r28 : b.tmps[28]?.getD undef = .bool true := hV 8 _ 28 rfl rfl (Pred.waits_near (by kernel_rfl) (by kernel_rfl))
            exact Pred.yields_run (v := .int .i64 a0) ((Pred.wanted_at (g := 8) (d := 28) (f := true) rfl rfl r28).trans rfl) (by go_simp) ⟨Pred.ext_refl _ _, rfl⟩
          · intro b X hE hd hn hV
            have r29 : b.tmps[29]?.getD undef = .int .i64 a0 := hV 9 _ 29 rfl rfl (Pred.waits_near (by kernel_rfl) (by kernel_rfl))
            have r28 : b.tmps[28]?.getD undef = .bool true := hV 8 _ 28 rfl rfl (Pred.waits_near (by kernel_rfl) (by kernel_rfl))
            exact Pred.yields_run (v := .bool false) ((Pred.wanted_at (g := 8) (d := 28) (f := true) rfl rfl r28).trans rfl) (by go_simp) ⟨Pred.ext_refl _ _, rfl⟩
          · intro b X hE hd hn hV
            have r28 : b.tmps[28]?.getD undef = .bool true := hV 8 _ 28 rfl rfl (Pred.waits_near (by kernel_rfl) (by kernel_rfl))
            have r30 : b.tmps[30]?.getD undef = .bool false := hV 10 _ 30 rfl rfl (Pred.waits_near (by kernel_rfl) (by kernel_rfl))
            have r24 : b.tmps[24]?.getD undef = .bool true := hV 4 _ 24 rfl rfl (Pred.waits_near (by kernel_rfl) (by kernel_rfl))
            exact Pred.yields_run (v := .bool false) ((Pred.wanted_at (g := 4) (d := 24) (f := true) rfl rfl r24).trans rfl) (by go_simp) ⟨Pred.ext_refl _ _, rfl⟩
          · intro b X hE hd hn hV
            have r26 : b.tmps[26]?.getD undef = .bool false := hV 6 _ 26 rfl rfl (Pred.waits_near (by kernel_rfl) (by kernel_rfl))
            have r31 : b.tmps[31]?.getD undef = .bool false := hV 11 _ 31 rfl rfl (Pred.waits_near (by kernel_rfl) (by kernel_rfl))
            have r24 : b.tmps[24]?.getD undef = .bool true := hV 4 _ 24 rfl rfl (Pred.waits_near (by kernel_rfl) (by kernel_rfl))
            exact Pred.yields_run (v := .bool true) ((Pred.wanted_at (g := 4) (d := 24) (f := true) rfl rfl r24).trans rfl) (by go_simp) ⟨Pred.ext_refl _ _, rfl⟩
          · intro b X hE hd hn hV
            have r24 : b.tmps[24]?.getD undef = .bool true := hV 4 _ 24 rfl rfl (Pred.waits_near (by kernel_rfl) (by kernel_rfl))
            have r32 : b.tmps[32]?.getD undef = .bool true := hV 12 _ 32 rfl rfl (Pred.waits_near (by kernel_rfl) (by kernel_rfl))
            exact Pred.yields_run (v := .bool true) (Pred.wanted_none rfl) (by go_simp) ⟨Pred.ext_refl _ _, rfl⟩
          · intro b X hE hd hn hV
            have r33 : b.tmps[33]?.getD undef = .bool true := hV 13 _ 33 rfl rfl (Pred.waits_near (by kernel_rfl) (by kernel_rfl))
            exact Pred.yields_run (v := .bool true) (Pred.wanted_none rfl) (by go_simp) ⟨Pred.ext_refl _ _, rfl⟩
          · intro b X hE hd hn hV
            have r0 : b.tmps[0]?.getD undef = .int .i64 a0 := (hn 0 (by kernel_rfl)).trans rfl
            have r34 : b.tmps[34]?.getD undef = .bool true := hV 14 _ 34 rfl rfl (Pred.waits_near (by kernel_rfl) (by kernel_rfl))
            exact Pred.yields_run (v := .int .i64 a0) ((Pred.wanted_at (g := 14) (d := 34) (f := true) rfl rfl r34).trans rfl) (by go_simp) ⟨Pred.ext_refl _ _, rfl⟩
          · intro b X hE hd hn hV
            have r5 : b.tmps[5]?.getD undef = .pointer (some ⟨w.heap.size, 0, none⟩) := (hn 5 (by kernel_rfl)).trans rfl
            have r34 : b.tmps[34]?.getD undef = .bool true := hV 14 _ 34 rfl rfl (Pred.waits_near (by kernel_rfl) (by kernel_rfl))
            have q := (blk_below hE _ lA).trans bA
            exact Pred.yields_run (v := .agg #[.int .u8 (a1_0), .int .u8 (a1_1), .int .u8 (a1_2), .int .u8 (a1_3)]) ((Pred.wanted_at (g := 14) (d := 34) (f := true) rfl rfl r34).trans rfl) (by go_simp) ⟨Pred.ext_refl _ _, rfl⟩
          · intro b X hE hd hn hV
            have r9 : b.tmps[9]?.getD undef = .pointer (some ⟨w.heap.size + 1 + 1, 0, none⟩) := (hn 9 (by kernel_rfl)).trans rfl
            have r34 : b.tmps[34]?.getD undef = .bool true := hV 14 _ 34 rfl rfl (Pred.waits_near (by kernel_rfl) (by kernel_rfl))
            have q := (blk_below hE _ lG).trans bG
            exact Pred.yields_run (v := .agg (gotV (a2_0) (a2_1) (a2_2) (a2_3) a3)) ((Pred.wanted_at (g := 14) (d := 34) (f := true) rfl rfl r34).trans rfl) (by go_simp) ⟨Pred.ext_refl _ _, rfl⟩
          · intro b X hE hd hn hV
            have r35 : b.tmps[35]?.getD undef = .int .i64 a0 := hV 15 _ 35 rfl rfl (Pred.waits_near (by kernel_rfl) (by kernel_rfl))
            have r36 : b.tmps[36]?.getD undef = .agg #[.int .u8 (a1_0), .int .u8 (a1_1), .int .u8 (a1_2), .int .u8 (a1_3)] := hV 16 _ 36 rfl rfl (Pred.waits_near (by kernel_rfl) (by kernel_rfl))
            have r37 : b.tmps[37]?.getD undef = .agg (gotV (a2_0) (a2_1) (a2_2) (a2_3) a3) := hV 17 _ 37 rfl rfl (Pred.waits_near (by kernel_rfl) (by kernel_rfl))
            have r34 : b.tmps[34]?.getD undef = .bool true := hV 14 _ 34 rfl rfl (Pred.waits_near (by kernel_rfl) (by kernel_rfl))
            have tb := TW.below hE lW
            refine Pred.yields_call (f := 8) (args := #[.int .i64 a0, .agg #[.int .u8 (a1_0), .int .u8 (a1_1), .int .u8 (a1_2), .int .u8 (a1_3)], .agg (gotV (a2_0) (a2_1) (a2_2) (a2_3) a3)]) ((Pred.wanted_at (g := 14) (d := 34) (f := true) rfl rfl r34).trans rfl) (by go_simp) ?_
            exact (pixel_any a0 a1_0 a1_1 a1_2 a1_3 a2_0 a2_1 a2_2 a2_3 a3 _ pa0 pa1 pa2 pa3 pc0 pc1 pc2 pc3 tb).mono fun e w2 ⟨he, hb⟩ => ⟨_, he, Pred.ext_below hb hE.size, rfl⟩
          · intro b X hE hd hn hV
            have r0 : b.tmps[0]?.getD undef = .int .i64 a0 := (hn 0 (by kernel_rfl)).trans rfl
            have r34 : b.tmps[34]?.getD undef = .bool true := hV 14 _ 34 rfl rfl (Pred.waits_near (by kernel_rfl) (by kernel_rfl))
            exact Pred.yields_run (v := .int .i64 a0) ((Pred.wanted_at (g := 14) (d := 34) (f := true) rfl rfl r34).trans rfl) (by go_simp) ⟨Pred.ext_refl _ _, rfl⟩
          · intro b X hE hd hn hV
            have r5 : b.tmps[5]?.getD undef = .pointer (some ⟨w.heap.size, 0, none⟩) := (hn 5 (by kernel_rfl)).trans rfl
            have r34 : b.tmps[34]?.getD undef = .bool true := hV 14 _ 34 rfl rfl (Pred.waits_near (by kernel_rfl) (by kernel_rfl))
            have q := (blk_below hE _ lA).trans bA
            exact Pred.yields_run (v := .agg #[.int .u8 (a1_0), .int .u8 (a1_1), .int .u8 (a1_2), .int .u8 (a1_3)]) ((Pred.wanted_at (g := 14) (d := 34) (f := true) rfl rfl r34).trans rfl) (by go_simp) ⟨Pred.ext_refl _ _, rfl⟩
          · intro b X hE hd hn hV
            have r6 : b.tmps[6]?.getD undef = .pointer (some ⟨w.heap.size + 1, 0, none⟩) := (hn 6 (by kernel_rfl)).trans rfl
            have r34 : b.tmps[34]?.getD undef = .bool true := hV 14 _ 34 rfl rfl (Pred.waits_near (by kernel_rfl) (by kernel_rfl))
            have q := (blk_below hE _ lC).trans bC
            exact Pred.yields_run (v := .agg #[.int .u8 (a2_0), .int .u8 (a2_1), .int .u8 (a2_2), .int .u8 (a2_3)]) ((Pred.wanted_at (g := 14) (d := 34) (f := true) rfl rfl r34).trans rfl) (by go_simp) ⟨Pred.ext_refl _ _, rfl⟩
          · intro b X hE hd hn hV
            have r3 : b.tmps[3]?.getD undef = .bool a3 := (hn 3 (by kernel_rfl)).trans rfl
            have r34 : b.tmps[34]?.getD undef = .bool true := hV 14 _ 34 rfl rfl (Pred.waits_near (by kernel_rfl) (by kernel_rfl))
            exact Pred.yields_run (v := .bool a3) ((Pred.wanted_at (g := 14) (d := 34) (f := true) rfl rfl r34).trans rfl) (by go_simp) ⟨Pred.ext_refl _ _, rfl⟩
          · intro b X hE hd hn hV
            have r41 : b.tmps[41]?.getD undef = .agg #[.int .u8 (a2_0), .int .u8 (a2_1), .int .u8 (a2_2), .int .u8 (a2_3)] := hV 21 _ 41 rfl rfl (Pred.waits_near (by kernel_rfl) (by kernel_rfl))
            have r42 : b.tmps[42]?.getD undef = .bool a3 := hV 22 _ 42 rfl rfl (Pred.waits_near (by kernel_rfl) (by kernel_rfl))
            have r34 : b.tmps[34]?.getD undef = .bool true := hV 14 _ 34 rfl rfl (Pred.waits_near (by kernel_rfl) (by kernel_rfl))
            exact Pred.yields_run (v := .agg (gotV (a2_0) (a2_1) (a2_2) (a2_3) a3)) ((Pred.wanted_at (g := 14) (d := 34) (f := true) rfl rfl r34).trans rfl) (by first | (go_simp; done) | (go_simp; rfl)) ⟨Pred.ext_refl _ _, rfl⟩
          · intro b X hE hd hn hV
            have r39 : b.tmps[39]?.getD undef = .int .i64 a0 := hV 19 _ 39 rfl rfl (Pred.waits_near (by kernel_rfl) (by kernel_rfl))
            have r40 : b.tmps[40]?.getD undef = .agg #[.int .u8 (a1_0), .int .u8 (a1_1), .int .u8 (a1_2), .int .u8 (a1_3)] := hV 20 _ 40 rfl rfl (Pred.waits_near (by kernel_rfl) (by kernel_rfl))
            have r43 : b.tmps[43]?.getD undef = .agg (gotV (a2_0) (a2_1) (a2_2) (a2_3) a3) := hV 23 _ 43 rfl rfl (Pred.waits_near (by kernel_rfl) (by kernel_rfl))
            have r34 : b.tmps[34]?.getD undef = .bool true := hV 14 _ 34 rfl rfl (Pred.waits_near (by kernel_rfl) (by kernel_rfl))
            have tb := TW.below hE lW
            refine Pred.yields_call (f := 9) (args := #[.int .i64 a0, .agg #[.int .u8 (a1_0), .int .u8 (a1_1), .int .u8 (a1_2), .int .u8 (a1_3)], .agg (gotV (a2_0) (a2_1) (a2_2) (a2_3) a3)]) ((Pred.wanted_at (g := 14) (d := 34) (f := true) rfl rfl r34).trans rfl) (by go_simp) ?_
            exact (rpixel_any a0 a1_0 a1_1 a1_2 a1_3 a2_0 a2_1 a2_2 a2_3 a3 _ pa0 pa1 pa2 pa3 pc0 pc1 pc2 pc3).mono fun e w2 ⟨he, hb⟩ => ⟨_, he, Pred.ext_below hb hE.size, rfl⟩
          · intro b X hE hd hn hV
            have r38 : b.tmps[38]?.getD undef = .agg #[.int .u8 (pixK a0 a1_0 a2_0 a3), .int .u8 (pixK a0 a1_1 a2_1 a3), .int .u8 (pixK a0 a1_2 a2_2 a3), .int .u8 (pixK a0 a1_3 a2_3 a3)] := hV 18 _ 38 rfl rfl (Pred.waits_near (by kernel_rfl) (by kernel_rfl))
            have r44 : b.tmps[44]?.getD undef = .agg #[.int .u8 (pixK a0 a1_0 a2_0 a3), .int .u8 (pixK a0 a1_1 a2_1 a3), .int .u8 (pixK a0 a1_2 a2_2 a3), .int .u8 (pixK a0 a1_3 a2_3 a3)] := hV 24 _ 44 rfl rfl (Pred.waits_near (by kernel_rfl) (by kernel_rfl))
            have r34 : b.tmps[34]?.getD undef = .bool true := hV 14 _ 34 rfl rfl (Pred.waits_near (by kernel_rfl) (by kernel_rfl))
            exact Pred.yields_run (v := .bool true) ((Pred.wanted_at (g := 14) (d := 34) (f := true) rfl rfl r34).trans rfl) (by go_simp) ⟨Pred.ext_refl _ _, rfl⟩
          · intro b X hE hd hn hV
            have r34 : b.tmps[34]?.getD undef = .bool true := hV 14 _ 34 rfl rfl (Pred.waits_near (by kernel_rfl) (by kernel_rfl))
            have r45 : b.tmps[45]?.getD undef = .bool true := hV 25 _ 45 rfl rfl (Pred.waits_near (by kernel_rfl) (by kernel_rfl))
            exact Pred.yields_run (v := .bool true) (Pred.wanted_none rfl) (by go_simp) ⟨Pred.ext_refl _ _, rfl⟩
          · intro b X hE hd hn hV
            have r46 : b.tmps[46]?.getD undef = .bool true := hV 26 _ 46 rfl rfl (Pred.waits_near (by kernel_rfl) (by kernel_rfl))
            exact Pred.yields_run (v := .bool true) (Pred.wanted_none rfl) (by go_simp) ⟨Pred.ext_refl _ _, rfl⟩
          · intro b X hE hd hn hV
            have r47 : b.tmps[47]?.getD undef = .bool true := hV 27 _ 47 rfl rfl (Pred.waits_near (by kernel_rfl) (by kernel_rfl))
            have tb := TW.below hE lW
            refine Pred.yields_call (f := 10) (args := #[]) ((Pred.wanted_at (g := 27) (d := 47) (f := true) rfl rfl r47).trans rfl) (by go_simp) ?_
            exact (awake_any _ tb).mono fun e w2 ⟨he, hb⟩ => ⟨_, he, Pred.ext_below hb hE.size, rfl⟩
          · intro b X hE hd hn hV
            have r47 : b.tmps[47]?.getD undef = .bool true := hV 27 _ 47 rfl rfl (Pred.waits_near (by kernel_rfl) (by kernel_rfl))
            have r48 : b.tmps[48]?.getD undef = .bool true := hV 28 _ 48 rfl rfl (Pred.waits_near (by kernel_rfl) (by kernel_rfl))
            exact Pred.yields_run (v := .bool true) (Pred.wanted_none rfl) (by go_simp) ⟨Pred.ext_refl _ _, rfl⟩
          · intro b X hE hd hn hV
            have r49 : b.tmps[49]?.getD undef = .bool true := hV 29 _ 49 rfl rfl (Pred.waits_near (by kernel_rfl) (by kernel_rfl))
            exact Pred.yields_run (v := .bool true) (Pred.wanted_none rfl) (by go_simp) ⟨Pred.ext_refl _ _, rfl⟩
        intro v X hE hv
        have e0 : v 0 = .int .i64 a0 := hv 0 _ 20 rfl rfl
        have e1 : v 1 = .bool true := hv 1 _ 21 rfl rfl
        have e2 : v 2 = .bool true := hv 2 _ 22 rfl rfl
        have e3 : v 3 = .bool true := hv 3 _ 23 rfl rfl
        have e4 : v 4 = .bool true := hv 4 _ 24 rfl rfl
        have e5 : v 5 = .int .i64 a0 := hv 5 _ 25 rfl rfl
        have e6 : v 6 = .bool false := hv 6 _ 26 rfl rfl
        have e7 : v 7 = .bool true := hv 7 _ 27 rfl rfl
        have e8 : v 8 = .bool true := hv 8 _ 28 rfl rfl
        have e9 : v 9 = .int .i64 a0 := hv 9 _ 29 rfl rfl
        have e10 : v 10 = .bool false := hv 10 _ 30 rfl rfl
        have e11 : v 11 = .bool false := hv 11 _ 31 rfl rfl
        have e12 : v 12 = .bool true := hv 12 _ 32 rfl rfl
        have e13 : v 13 = .bool true := hv 13 _ 33 rfl rfl
        have e14 : v 14 = .bool true := hv 14 _ 34 rfl rfl
        have e15 : v 15 = .int .i64 a0 := hv 15 _ 35 rfl rfl
        have e16 : v 16 = .agg #[.int .u8 (a1_0), .int .u8 (a1_1), .int .u8 (a1_2), .int .u8 (a1_3)] := hv 16 _ 36 rfl rfl
        have e17 : v 17 = .agg (gotV (a2_0) (a2_1) (a2_2) (a2_3) a3) := hv 17 _ 37 rfl rfl
        have e18 : v 18 = .agg #[.int .u8 (pixK a0 a1_0 a2_0 a3), .int .u8 (pixK a0 a1_1 a2_1 a3), .int .u8 (pixK a0 a1_2 a2_2 a3), .int .u8 (pixK a0 a1_3 a2_3 a3)] := hv 18 _ 38 rfl rfl
        have e19 : v 19 = .int .i64 a0 := hv 19 _ 39 rfl rfl
        have e20 : v 20 = .agg #[.int .u8 (a1_0), .int .u8 (a1_1), .int .u8 (a1_2), .int .u8 (a1_3)] := hv 20 _ 40 rfl rfl
        have e21 : v 21 = .agg #[.int .u8 (a2_0), .int .u8 (a2_1), .int .u8 (a2_2), .int .u8 (a2_3)] := hv 21 _ 41 rfl rfl
        have e22 : v 22 = .bool a3 := hv 22 _ 42 rfl rfl
        have e23 : v 23 = .agg (gotV (a2_0) (a2_1) (a2_2) (a2_3) a3) := hv 23 _ 43 rfl rfl
        have e24 : v 24 = .agg #[.int .u8 (pixK a0 a1_0 a2_0 a3), .int .u8 (pixK a0 a1_1 a2_1 a3), .int .u8 (pixK a0 a1_2 a2_2 a3), .int .u8 (pixK a0 a1_3 a2_3 a3)] := hv 24 _ 44 rfl rfl
        have e25 : v 25 = .bool true := hv 25 _ 45 rfl rfl
        have e26 : v 26 = .bool true := hv 26 _ 46 rfl rfl
        have e27 : v 27 = .bool true := hv 27 _ 47 rfl rfl
        have e28 : v 28 = .bool true := hv 28 _ 48 rfl rfl
        have e29 : v 29 = .bool true := hv 29 _ 49 rfl rfl
        have e30 : v 30 = .bool true := hv 30 _ 8 rfl rfl
        simp only [Pred.putsF_cons, Pred.putsF_nil, Nat.zero_add, Nat.reduceAdd, e0, e1, e2, e3, e4, e5, e6, e7, e8, e9, e10, e11, e12, e13, e14, e15, e16, e17, e18, e19, e20, e21, e22, e23, e24, e25, e26, e27, e28, e29, e30, Act.put, List.setIfInBounds_toArray, List.set_cons_zero, List.set_cons_succ]
        clear e0 e1 e2 e3 e4 e5 e6 e7 e8 e9 e10 e11 e12 e13 e14 e15 e16 e17 e18 e19 e20 e21 e22 e23 e24 e25 e26 e27 e28 e29 e30 hv
        have sX := hE.size
        have L2 : Below w.heap.size w X := L1.trans (hE.mono L1.size)
        go_wp2
        go_ret
        exact ⟨rfl, L2⟩
      · have hm : mayS a0 = true := by simp [mayS]; omega
        have ha : asksS a0 = true := by simp [asksS, n1, hm]
        go_enter Tryd.func3, Tryd.ntmps3
        go_upto_region 3 with (fail)
        refine Rd.name_world ?_
        intro W hW
        have bA : blk W w.heap.size = some (.cells #[.int .u8 (a1_0), .int .u8 (a1_1), .int .u8 (a1_2), .int .u8 (a1_3)] 23 (0, 0)) := by rw [hW, blk_alloc_old _ _ _ (by simp; omega)]; exact blk2_0 w _ _
        have bG : blk W (w.heap.size + 1 + 1) = some (.cells (gotV a2_0 a2_1 a2_2 a2_3 a3) 26 (0, 0)) := by rw [hW]; exact blk_alloc_at _ _ _ (by simp)
        have bC : blk W (w.heap.size + 1) = some (.cells #[.int .u8 (a2_0), .int .u8 (a2_1), .int .u8 (a2_2), .int .u8 (a2_3)] 23 (0, 0)) := by rw [hW, blk_alloc_old _ _ _ (by simp)]; exact blk2_1 w _ _
        have L1 : Below w.heap.size w W := by rw [hW]; repeat' (first | (with_reducible exact Below.refl _ _) | (with_reducible refine Rd.below_step ?_ (by assumption)) | (with_reducible refine Rd.below_alloc ?_ _) | (with_reducible refine Rd.below_drewN ?_ _) | (with_reducible refine Below.drew ?_) | (with_reducible refine Below.setCell ?_ ?_ _) | (with_reducible refine Rd.below_setRow ?_ ?_ _) | go_size | (simp only [World.size_alloc]; omega) | omega)
        have TW := hT.below L1 h0
        have lA := blk_lt bA
        have lC := blk_lt bC
        have lG := blk_lt bG
        have lW : 0 < W.heap.size := TW.1
        clear hW
        refine Pred.region_vals (Pred.Of [
            Is (.int .i64 a0),
            Is (.bool true),
            Is (.bool true),
            Is (.bool true),
            Is (.bool true),
            Is (.int .i64 a0),
            Is (.bool true),
            Is (.bool true),
            Is (.bool true),
            Is (.int .i64 a0),
            Is (.bool true),
            Is (.bool true),
            Is (.bool true),
            Is (.bool true),
            Is (.bool true),
            Is (.int .i64 a0),
            Is (.agg #[.int .u8 (a1_0), .int .u8 (a1_1), .int .u8 (a1_2), .int .u8 (a1_3)]),
            Is (.agg (gotV (a2_0) (a2_1) (a2_2) (a2_3) a3)),
            Is (.agg #[.int .u8 (pixK a0 a1_0 a2_0 a3), .int .u8 (pixK a0 a1_1 a2_1 a3), .int .u8 (pixK a0 a1_2 a2_2 a3), .int .u8 (pixK a0 a1_3 a2_3 a3)]),
            Is (.int .i64 a0),
            Is (.agg #[.int .u8 (a1_0), .int .u8 (a1_1), .int .u8 (a1_2), .int .u8 (a1_3)]),
            Is (.agg #[.int .u8 (a2_0), .int .u8 (a2_1), .int .u8 (a2_2), .int .u8 (a2_3)]),
            Is (.bool a3),
            Is (.agg (gotV (a2_0) (a2_1) (a2_2) (a2_3) a3)),
            Is (.agg #[.int .u8 (pixK a0 a1_0 a2_0 a3), .int .u8 (pixK a0 a1_1 a2_1 a3), .int .u8 (pixK a0 a1_2 a2_2 a3), .int .u8 (pixK a0 a1_3 a2_3 a3)]),
            Is (.bool true),
            Is (.bool true),
            Is (.bool true),
            Is (.bool true),
            Is (.bool true),
            Is (.bool true)]) (by kernel_rfl) (by kernel_rfl) (by kernel_rfl) (Pred.of_stab ?_) ?_ ?_
        · exact ⟨is_stab _, is_stab _, is_stab _, is_stab _, is_stab _, is_stab _, is_stab _, is_stab _, is_stab _, is_stab _, is_stab _, is_stab _, is_stab _, is_stab _, is_stab _, is_stab _, is_stab _, is_stab _, is_stab _, is_stab _, is_stab _, is_stab _, is_stab _, is_stab _, is_stab _, is_stab _, is_stab _, is_stab _, is_stab _, is_stab _, is_stab _, trivial⟩
        · refine ⟨?_, ?_, ?_, ?_, ?_, ?_, ?_, ?_, ?_, ?_, ?_, ?_, ?_, ?_, ?_, ?_, ?_, ?_, ?_, ?_, ?_, ?_, ?_, ?_, ?_, ?_, ?_, ?_, ?_, ?_, ?_, trivial⟩
          · intro b X hE hd hn hV
            have r0 : b.tmps[0]?.getD undef = .int .i64 a0 := (hn 0 (by kernel_rfl)).trans rfl
            exact Pred.yields_run (v := .int .i64 a0) (Pred.wanted_none rfl) (by go_simp) ⟨Pred.ext_refl _ _, rfl⟩
          · intro b X hE hd hn hV
            have r20 : b.tmps[20]?.getD undef = .int .i64 a0 := hV 0 _ 20 rfl rfl (Pred.waits_near (by kernel_rfl) (by kernel_rfl))
            have tb := TW.below hE lW
            refine Pred.yields_call (f := 6) (args := #[.int .i64 a0]) (Pred.wanted_none rfl) (by go_simp) ?_
            exact (mayQ a0 true hm _).mono fun e w2 ⟨he, hb⟩ => ⟨_, he, Pred.ext_below hb hE.size, rfl⟩
          · intro b X hE hd hn hV
            have r10 : b.tmps[10]?.getD undef = .bool true := (hn 10 (by kernel_rfl)).trans rfl
            exact Pred.yields_run (v := .bool true) (Pred.wanted_none rfl) (by go_simp) ⟨Pred.ext_refl _ _, rfl⟩
          · intro b X hE hd hn hV
            have r21 : b.tmps[21]?.getD undef = .bool true := hV 1 _ 21 rfl rfl (Pred.waits_near (by kernel_rfl) (by kernel_rfl))
            have r22 : b.tmps[22]?.getD undef = .bool true := hV 2 _ 22 rfl rfl (Pred.waits_near (by kernel_rfl) (by kernel_rfl))
            exact Pred.yields_run (v := .bool true) (Pred.wanted_none rfl) (by go_simp) ⟨Pred.ext_refl _ _, rfl⟩
          · intro b X hE hd hn hV
            have r23 : b.tmps[23]?.getD undef = .bool true := hV 3 _ 23 rfl rfl (Pred.waits_near (by kernel_rfl) (by kernel_rfl))
            exact Pred.yields_run (v := .bool true) (Pred.wanted_none rfl) (by go_simp) ⟨Pred.ext_refl _ _, rfl⟩
          · intro b X hE hd hn hV
            have r0 : b.tmps[0]?.getD undef = .int .i64 a0 := (hn 0 (by kernel_rfl)).trans rfl
            have r24 : b.tmps[24]?.getD undef = .bool true := hV 4 _ 24 rfl rfl (Pred.waits_near (by kernel_rfl) (by kernel_rfl))
            exact Pred.yields_run (v := .int .i64 a0) ((Pred.wanted_at (g := 4) (d := 24) (f := true) rfl rfl r24).trans rfl) (by go_simp) ⟨Pred.ext_refl _ _, rfl⟩
          · intro b X hE hd hn hV
            have r25 : b.tmps[25]?.getD undef = .int .i64 a0 := hV 5 _ 25 rfl rfl (Pred.waits_near (by kernel_rfl) (by kernel_rfl))
            have r24 : b.tmps[24]?.getD undef = .bool true := hV 4 _ 24 rfl rfl (Pred.waits_near (by kernel_rfl) (by kernel_rfl))
            have tb := TW.below hE lW
            refine Pred.yields_call (f := 7) (args := #[.int .i64 a0]) ((Pred.wanted_at (g := 4) (d := 24) (f := true) rfl rfl r24).trans rfl) (by go_simp) ?_
            exact (asksQ a0 true ha _ tb).mono fun e w2 ⟨he, hb⟩ => ⟨_, he, Pred.ext_below hb hE.size, rfl⟩
          · intro b X hE hd hn hV
            have r10 : b.tmps[10]?.getD undef = .bool true := (hn 10 (by kernel_rfl)).trans rfl
            have r24 : b.tmps[24]?.getD undef = .bool true := hV 4 _ 24 rfl rfl (Pred.waits_near (by kernel_rfl) (by kernel_rfl))
            exact Pred.yields_run (v := .bool true) ((Pred.wanted_at (g := 4) (d := 24) (f := true) rfl rfl r24).trans rfl) (by go_simp) ⟨Pred.ext_refl _ _, rfl⟩
          · intro b X hE hd hn hV
            have r27 : b.tmps[27]?.getD undef = .bool true := hV 7 _ 27 rfl rfl (Pred.waits_near (by kernel_rfl) (by kernel_rfl))
            have r24 : b.tmps[24]?.getD undef = .bool true := hV 4 _ 24 rfl rfl (Pred.waits_near (by kernel_rfl) (by kernel_rfl))
            exact Pred.yields_run (v := .bool true) ((Pred.wanted_at (g := 4) (d := 24) (f := true) rfl rfl r24).trans rfl) (by go_simp) ⟨Pred.ext_refl _ _, rfl⟩
          · intro b X hE hd hn hV
            have r0 : b.tmps[0]?.getD undef = .int .i64 a0 := (hn 0 (by kernel_rfl)).trans rfl
            have r28 : b.tmps[28]?.getD undef = .bool true := hV 8 _ 28 rfl rfl (Pred.waits_near (by kernel_rfl) (by kernel_rfl))
            exact Pred.yields_run (v := .int .i64 a0) ((Pred.wanted_at (g := 8) (d := 28) (f := true) rfl rfl r28).trans rfl) (by go_simp) ⟨Pred.ext_refl _ _, rfl⟩
          · intro b X hE hd hn hV
            have r29 : b.tmps[29]?.getD undef = .int .i64 a0 := hV 9 _ 29 rfl rfl (Pred.waits_near (by kernel_rfl) (by kernel_rfl))
            have r28 : b.tmps[28]?.getD undef = .bool true := hV 8 _ 28 rfl rfl (Pred.waits_near (by kernel_rfl) (by kernel_rfl))
            exact Pred.yields_run (v := .bool true) ((Pred.wanted_at (g := 8) (d := 28) (f := true) rfl rfl r28).trans rfl) (by go_simp) ⟨Pred.ext_refl _ _, rfl⟩
          · intro b X hE hd hn hV
            have r28 : b.tmps[28]?.getD undef = .bool true := hV 8 _ 28 rfl rfl (Pred.waits_near (by kernel_rfl) (by kernel_rfl))
            have r30 : b.tmps[30]?.getD undef = .bool true := hV 10 _ 30 rfl rfl (Pred.waits_near (by kernel_rfl) (by kernel_rfl))
            have r24 : b.tmps[24]?.getD undef = .bool true := hV 4 _ 24 rfl rfl (Pred.waits_near (by kernel_rfl) (by kernel_rfl))
            exact Pred.yields_run (v := .bool true) ((Pred.wanted_at (g := 4) (d := 24) (f := true) rfl rfl r24).trans rfl) (by go_simp) ⟨Pred.ext_refl _ _, rfl⟩
          · intro b X hE hd hn hV
            have r26 : b.tmps[26]?.getD undef = .bool true := hV 6 _ 26 rfl rfl (Pred.waits_near (by kernel_rfl) (by kernel_rfl))
            have r31 : b.tmps[31]?.getD undef = .bool true := hV 11 _ 31 rfl rfl (Pred.waits_near (by kernel_rfl) (by kernel_rfl))
            have r24 : b.tmps[24]?.getD undef = .bool true := hV 4 _ 24 rfl rfl (Pred.waits_near (by kernel_rfl) (by kernel_rfl))
            exact Pred.yields_run (v := .bool true) ((Pred.wanted_at (g := 4) (d := 24) (f := true) rfl rfl r24).trans rfl) (by go_simp) ⟨Pred.ext_refl _ _, rfl⟩
          · intro b X hE hd hn hV
            have r24 : b.tmps[24]?.getD undef = .bool true := hV 4 _ 24 rfl rfl (Pred.waits_near (by kernel_rfl) (by kernel_rfl))
            have r32 : b.tmps[32]?.getD undef = .bool true := hV 12 _ 32 rfl rfl (Pred.waits_near (by kernel_rfl) (by kernel_rfl))
            exact Pred.yields_run (v := .bool true) (Pred.wanted_none rfl) (by go_simp) ⟨Pred.ext_refl _ _, rfl⟩
          · intro b X hE hd hn hV
            have r33 : b.tmps[33]?.getD undef = .bool true := hV 13 _ 33 rfl rfl (Pred.waits_near (by kernel_rfl) (by kernel_rfl))
            exact Pred.yields_run (v := .bool true) (Pred.wanted_none rfl) (by go_simp) ⟨Pred.ext_refl _ _, rfl⟩
          · intro b X hE hd hn hV
            have r0 : b.tmps[0]?.getD undef = .int .i64 a0 := (hn 0 (by kernel_rfl)).trans rfl
            have r34 : b.tmps[34]?.getD undef = .bool true := hV 14 _ 34 rfl rfl (Pred.waits_near (by kernel_rfl) (by kernel_rfl))
            exact Pred.yields_run (v := .int .i64 a0) ((Pred.wanted_at (g := 14) (d := 34) (f := true) rfl rfl r34).trans rfl) (by go_simp) ⟨Pred.ext_refl _ _, rfl⟩
          · intro b X hE hd hn hV
            have r5 : b.tmps[5]?.getD undef = .pointer (some ⟨w.heap.size, 0, none⟩) := (hn 5 (by kernel_rfl)).trans rfl
            have r34 : b.tmps[34]?.getD undef = .bool true := hV 14 _ 34 rfl rfl (Pred.waits_near (by kernel_rfl) (by kernel_rfl))
            have q := (blk_below hE _ lA).trans bA
            exact Pred.yields_run (v := .agg #[.int .u8 (a1_0), .int .u8 (a1_1), .int .u8 (a1_2), .int .u8 (a1_3)]) ((Pred.wanted_at (g := 14) (d := 34) (f := true) rfl rfl r34).trans rfl) (by go_simp) ⟨Pred.ext_refl _ _, rfl⟩
          · intro b X hE hd hn hV
            have r9 : b.tmps[9]?.getD undef = .pointer (some ⟨w.heap.size + 1 + 1, 0, none⟩) := (hn 9 (by kernel_rfl)).trans rfl
            have r34 : b.tmps[34]?.getD undef = .bool true := hV 14 _ 34 rfl rfl (Pred.waits_near (by kernel_rfl) (by kernel_rfl))
            have q := (blk_below hE _ lG).trans bG
            exact Pred.yields_run (v := .agg (gotV (a2_0) (a2_1) (a2_2) (a2_3) a3)) ((Pred.wanted_at (g := 14) (d := 34) (f := true) rfl rfl r34).trans rfl) (by go_simp) ⟨Pred.ext_refl _ _, rfl⟩
          · intro b X hE hd hn hV
            have r35 : b.tmps[35]?.getD undef = .int .i64 a0 := hV 15 _ 35 rfl rfl (Pred.waits_near (by kernel_rfl) (by kernel_rfl))
            have r36 : b.tmps[36]?.getD undef = .agg #[.int .u8 (a1_0), .int .u8 (a1_1), .int .u8 (a1_2), .int .u8 (a1_3)] := hV 16 _ 36 rfl rfl (Pred.waits_near (by kernel_rfl) (by kernel_rfl))
            have r37 : b.tmps[37]?.getD undef = .agg (gotV (a2_0) (a2_1) (a2_2) (a2_3) a3) := hV 17 _ 37 rfl rfl (Pred.waits_near (by kernel_rfl) (by kernel_rfl))
            have r34 : b.tmps[34]?.getD undef = .bool true := hV 14 _ 34 rfl rfl (Pred.waits_near (by kernel_rfl) (by kernel_rfl))
            have tb := TW.below hE lW
            refine Pred.yields_call (f := 8) (args := #[.int .i64 a0, .agg #[.int .u8 (a1_0), .int .u8 (a1_1), .int .u8 (a1_2), .int .u8 (a1_3)], .agg (gotV (a2_0) (a2_1) (a2_2) (a2_3) a3)]) ((Pred.wanted_at (g := 14) (d := 34) (f := true) rfl rfl r34).trans rfl) (by go_simp) ?_
            exact (pixel_any a0 a1_0 a1_1 a1_2 a1_3 a2_0 a2_1 a2_2 a2_3 a3 _ pa0 pa1 pa2 pa3 pc0 pc1 pc2 pc3 tb).mono fun e w2 ⟨he, hb⟩ => ⟨_, he, Pred.ext_below hb hE.size, rfl⟩
          · intro b X hE hd hn hV
            have r0 : b.tmps[0]?.getD undef = .int .i64 a0 := (hn 0 (by kernel_rfl)).trans rfl
            have r34 : b.tmps[34]?.getD undef = .bool true := hV 14 _ 34 rfl rfl (Pred.waits_near (by kernel_rfl) (by kernel_rfl))
            exact Pred.yields_run (v := .int .i64 a0) ((Pred.wanted_at (g := 14) (d := 34) (f := true) rfl rfl r34).trans rfl) (by go_simp) ⟨Pred.ext_refl _ _, rfl⟩
          · intro b X hE hd hn hV
            have r5 : b.tmps[5]?.getD undef = .pointer (some ⟨w.heap.size, 0, none⟩) := (hn 5 (by kernel_rfl)).trans rfl
            have r34 : b.tmps[34]?.getD undef = .bool true := hV 14 _ 34 rfl rfl (Pred.waits_near (by kernel_rfl) (by kernel_rfl))
            have q := (blk_below hE _ lA).trans bA
            exact Pred.yields_run (v := .agg #[.int .u8 (a1_0), .int .u8 (a1_1), .int .u8 (a1_2), .int .u8 (a1_3)]) ((Pred.wanted_at (g := 14) (d := 34) (f := true) rfl rfl r34).trans rfl) (by go_simp) ⟨Pred.ext_refl _ _, rfl⟩
          · intro b X hE hd hn hV
            have r6 : b.tmps[6]?.getD undef = .pointer (some ⟨w.heap.size + 1, 0, none⟩) := (hn 6 (by kernel_rfl)).trans rfl
            have r34 : b.tmps[34]?.getD undef = .bool true := hV 14 _ 34 rfl rfl (Pred.waits_near (by kernel_rfl) (by kernel_rfl))
            have q := (blk_below hE _ lC).trans bC
            exact Pred.yields_run (v := .agg #[.int .u8 (a2_0), .int .u8 (a2_1), .int .u8 (a2_2), .int .u8 (a2_3)]) ((Pred.wanted_at (g := 14) (d := 34) (f := true) rfl rfl r34).trans rfl) (by go_simp) ⟨Pred.ext_refl _ _, rfl⟩
          · intro b X hE hd hn hV
            have r3 : b.tmps[3]?.getD undef = .bool a3 := (hn 3 (by kernel_rfl)).trans rfl
            have r34 : b.tmps[34]?.getD undef = .bool true := hV 14 _ 34 rfl rfl (Pred.waits_near (by kernel_rfl) (by kernel_rfl))
            exact Pred.yields_run (v := .bool a3) ((Pred.wanted_at (g := 14) (d := 34) (f := true) rfl rfl r34).trans rfl) (by go_simp) ⟨Pred.ext_refl _ _, rfl⟩
          · intro b X hE hd hn hV
            have r41 : b.tmps[41]?.getD undef = .agg #[.int .u8 (a2_0), .int .u8 (a2_1), .int .u8 (a2_2), .int .u8 (a2_3)] := hV 21 _ 41 rfl rfl (Pred.waits_near (by kernel_rfl) (by kernel_rfl))
            have r42 : b.tmps[42]?.getD undef = .bool a3 := hV 22 _ 42 rfl rfl (Pred.waits_near (by kernel_rfl) (by kernel_rfl))
            have r34 : b.tmps[34]?.getD undef = .bool true := hV 14 _ 34 rfl rfl (Pred.waits_near (by kernel_rfl) (by kernel_rfl))
            exact Pred.yields_run (v := .agg (gotV (a2_0) (a2_1) (a2_2) (a2_3) a3)) ((Pred.wanted_at (g := 14) (d := 34) (f := true) rfl rfl r34).trans rfl) (by first | (go_simp; done) | (go_simp; rfl)) ⟨Pred.ext_refl _ _, rfl⟩
          · intro b X hE hd hn hV
            have r39 : b.tmps[39]?.getD undef = .int .i64 a0 := hV 19 _ 39 rfl rfl (Pred.waits_near (by kernel_rfl) (by kernel_rfl))
            have r40 : b.tmps[40]?.getD undef = .agg #[.int .u8 (a1_0), .int .u8 (a1_1), .int .u8 (a1_2), .int .u8 (a1_3)] := hV 20 _ 40 rfl rfl (Pred.waits_near (by kernel_rfl) (by kernel_rfl))
            have r43 : b.tmps[43]?.getD undef = .agg (gotV (a2_0) (a2_1) (a2_2) (a2_3) a3) := hV 23 _ 43 rfl rfl (Pred.waits_near (by kernel_rfl) (by kernel_rfl))
            have r34 : b.tmps[34]?.getD undef = .bool true := hV 14 _ 34 rfl rfl (Pred.waits_near (by kernel_rfl) (by kernel_rfl))
            have tb := TW.below hE lW
            refine Pred.yields_call (f := 9) (args := #[.int .i64 a0, .agg #[.int .u8 (a1_0), .int .u8 (a1_1), .int .u8 (a1_2), .int .u8 (a1_3)], .agg (gotV (a2_0) (a2_1) (a2_2) (a2_3) a3)]) ((Pred.wanted_at (g := 14) (d := 34) (f := true) rfl rfl r34).trans rfl) (by go_simp) ?_
            exact (rpixel_any a0 a1_0 a1_1 a1_2 a1_3 a2_0 a2_1 a2_2 a2_3 a3 _ pa0 pa1 pa2 pa3 pc0 pc1 pc2 pc3).mono fun e w2 ⟨he, hb⟩ => ⟨_, he, Pred.ext_below hb hE.size, rfl⟩
          · intro b X hE hd hn hV
            have r38 : b.tmps[38]?.getD undef = .agg #[.int .u8 (pixK a0 a1_0 a2_0 a3), .int .u8 (pixK a0 a1_1 a2_1 a3), .int .u8 (pixK a0 a1_2 a2_2 a3), .int .u8 (pixK a0 a1_3 a2_3 a3)] := hV 18 _ 38 rfl rfl (Pred.waits_near (by kernel_rfl) (by kernel_rfl))
            have r44 : b.tmps[44]?.getD undef = .agg #[.int .u8 (pixK a0 a1_0 a2_0 a3), .int .u8 (pixK a0 a1_1 a2_1 a3), .int .u8 (pixK a0 a1_2 a2_2 a3), .int .u8 (pixK a0 a1_3 a2_3 a3)] := hV 24 _ 44 rfl rfl (Pred.waits_near (by kernel_rfl) (by kernel_rfl))
            have r34 : b.tmps[34]?.getD undef = .bool true := hV 14 _ 34 rfl rfl (Pred.waits_near (by kernel_rfl) (by kernel_rfl))
            exact Pred.yields_run (v := .bool true) ((Pred.wanted_at (g := 14) (d := 34) (f := true) rfl rfl r34).trans rfl) (by go_simp) ⟨Pred.ext_refl _ _, rfl⟩
          · intro b X hE hd hn hV
            have r34 : b.tmps[34]?.getD undef = .bool true := hV 14 _ 34 rfl rfl (Pred.waits_near (by kernel_rfl) (by kernel_rfl))
            have r45 : b.tmps[45]?.getD undef = .bool true := hV 25 _ 45 rfl rfl (Pred.waits_near (by kernel_rfl) (by kernel_rfl))
            exact Pred.yields_run (v := .bool true) (Pred.wanted_none rfl) (by go_simp) ⟨Pred.ext_refl _ _, rfl⟩
          · intro b X hE hd hn hV
            have r46 : b.tmps[46]?.getD undef = .bool true := hV 26 _ 46 rfl rfl (Pred.waits_near (by kernel_rfl) (by kernel_rfl))
            exact Pred.yields_run (v := .bool true) (Pred.wanted_none rfl) (by go_simp) ⟨Pred.ext_refl _ _, rfl⟩
          · intro b X hE hd hn hV
            have r47 : b.tmps[47]?.getD undef = .bool true := hV 27 _ 47 rfl rfl (Pred.waits_near (by kernel_rfl) (by kernel_rfl))
            have tb := TW.below hE lW
            refine Pred.yields_call (f := 10) (args := #[]) ((Pred.wanted_at (g := 27) (d := 47) (f := true) rfl rfl r47).trans rfl) (by go_simp) ?_
            exact (awake_any _ tb).mono fun e w2 ⟨he, hb⟩ => ⟨_, he, Pred.ext_below hb hE.size, rfl⟩
          · intro b X hE hd hn hV
            have r47 : b.tmps[47]?.getD undef = .bool true := hV 27 _ 47 rfl rfl (Pred.waits_near (by kernel_rfl) (by kernel_rfl))
            have r48 : b.tmps[48]?.getD undef = .bool true := hV 28 _ 48 rfl rfl (Pred.waits_near (by kernel_rfl) (by kernel_rfl))
            exact Pred.yields_run (v := .bool true) (Pred.wanted_none rfl) (by go_simp) ⟨Pred.ext_refl _ _, rfl⟩
          · intro b X hE hd hn hV
            have r49 : b.tmps[49]?.getD undef = .bool true := hV 29 _ 49 rfl rfl (Pred.waits_near (by kernel_rfl) (by kernel_rfl))
            exact Pred.yields_run (v := .bool true) (Pred.wanted_none rfl) (by go_simp) ⟨Pred.ext_refl _ _, rfl⟩
        intro v X hE hv
        have e0 : v 0 = .int .i64 a0 := hv 0 _ 20 rfl rfl
        have e1 : v 1 = .bool true := hv 1 _ 21 rfl rfl
        have e2 : v 2 = .bool true := hv 2 _ 22 rfl rfl
        have e3 : v 3 = .bool true := hv 3 _ 23 rfl rfl
        have e4 : v 4 = .bool true := hv 4 _ 24 rfl rfl
        have e5 : v 5 = .int .i64 a0 := hv 5 _ 25 rfl rfl
        have e6 : v 6 = .bool true := hv 6 _ 26 rfl rfl
        have e7 : v 7 = .bool true := hv 7 _ 27 rfl rfl
        have e8 : v 8 = .bool true := hv 8 _ 28 rfl rfl
        have e9 : v 9 = .int .i64 a0 := hv 9 _ 29 rfl rfl
        have e10 : v 10 = .bool true := hv 10 _ 30 rfl rfl
        have e11 : v 11 = .bool true := hv 11 _ 31 rfl rfl
        have e12 : v 12 = .bool true := hv 12 _ 32 rfl rfl
        have e13 : v 13 = .bool true := hv 13 _ 33 rfl rfl
        have e14 : v 14 = .bool true := hv 14 _ 34 rfl rfl
        have e15 : v 15 = .int .i64 a0 := hv 15 _ 35 rfl rfl
        have e16 : v 16 = .agg #[.int .u8 (a1_0), .int .u8 (a1_1), .int .u8 (a1_2), .int .u8 (a1_3)] := hv 16 _ 36 rfl rfl
        have e17 : v 17 = .agg (gotV (a2_0) (a2_1) (a2_2) (a2_3) a3) := hv 17 _ 37 rfl rfl
        have e18 : v 18 = .agg #[.int .u8 (pixK a0 a1_0 a2_0 a3), .int .u8 (pixK a0 a1_1 a2_1 a3), .int .u8 (pixK a0 a1_2 a2_2 a3), .int .u8 (pixK a0 a1_3 a2_3 a3)] := hv 18 _ 38 rfl rfl
        have e19 : v 19 = .int .i64 a0 := hv 19 _ 39 rfl rfl
        have e20 : v 20 = .agg #[.int .u8 (a1_0), .int .u8 (a1_1), .int .u8 (a1_2), .int .u8 (a1_3)] := hv 20 _ 40 rfl rfl
        have e21 : v 21 = .agg #[.int .u8 (a2_0), .int .u8 (a2_1), .int .u8 (a2_2), .int .u8 (a2_3)] := hv 21 _ 41 rfl rfl
        have e22 : v 22 = .bool a3 := hv 22 _ 42 rfl rfl
        have e23 : v 23 = .agg (gotV (a2_0) (a2_1) (a2_2) (a2_3) a3) := hv 23 _ 43 rfl rfl
        have e24 : v 24 = .agg #[.int .u8 (pixK a0 a1_0 a2_0 a3), .int .u8 (pixK a0 a1_1 a2_1 a3), .int .u8 (pixK a0 a1_2 a2_2 a3), .int .u8 (pixK a0 a1_3 a2_3 a3)] := hv 24 _ 44 rfl rfl
        have e25 : v 25 = .bool true := hv 25 _ 45 rfl rfl
        have e26 : v 26 = .bool true := hv 26 _ 46 rfl rfl
        have e27 : v 27 = .bool true := hv 27 _ 47 rfl rfl
        have e28 : v 28 = .bool true := hv 28 _ 48 rfl rfl
        have e29 : v 29 = .bool true := hv 29 _ 49 rfl rfl
        have e30 : v 30 = .bool true := hv 30 _ 8 rfl rfl
        simp only [Pred.putsF_cons, Pred.putsF_nil, Nat.zero_add, Nat.reduceAdd, e0, e1, e2, e3, e4, e5, e6, e7, e8, e9, e10, e11, e12, e13, e14, e15, e16, e17, e18, e19, e20, e21, e22, e23, e24, e25, e26, e27, e28, e29, e30, Act.put, List.setIfInBounds_toArray, List.set_cons_zero, List.set_cons_succ]
        clear e0 e1 e2 e3 e4 e5 e6 e7 e8 e9 e10 e11 e12 e13 e14 e15 e16 e17 e18 e19 e20 e21 e22 e23 e24 e25 e26 e27 e28 e29 e30 hv
        have sX := hE.size
        have L2 : Below w.heap.size w X := L1.trans (hE.mono L1.size)
        go_wp2
        go_ret
        exact ⟨rfl, L2⟩
    · have hm : mayS a0 = false := by simp [mayS]; omega
      have ha : asksS a0 = false := by simp [asksS, hm]
      go_enter Tryd.func3, Tryd.ntmps3
      go_upto_region 3 with (fail)
      refine Rd.name_world ?_
      intro W hW
      have bA : blk W w.heap.size = some (.cells #[.int .u8 (a1_0), .int .u8 (a1_1), .int .u8 (a1_2), .int .u8 (a1_3)] 23 (0, 0)) := by rw [hW, blk_alloc_old _ _ _ (by simp; omega)]; exact blk2_0 w _ _
      have bG : blk W (w.heap.size + 1 + 1) = some (.cells (gotV a2_0 a2_1 a2_2 a2_3 a3) 26 (0, 0)) := by rw [hW]; exact blk_alloc_at _ _ _ (by simp)
      have bC : blk W (w.heap.size + 1) = some (.cells #[.int .u8 (a2_0), .int .u8 (a2_1), .int .u8 (a2_2), .int .u8 (a2_3)] 23 (0, 0)) := by rw [hW, blk_alloc_old _ _ _ (by simp)]; exact blk2_1 w _ _
      have L1 : Below w.heap.size w W := by rw [hW]; repeat' (first | (with_reducible exact Below.refl _ _) | (with_reducible refine Rd.below_step ?_ (by assumption)) | (with_reducible refine Rd.below_alloc ?_ _) | (with_reducible refine Rd.below_drewN ?_ _) | (with_reducible refine Below.drew ?_) | (with_reducible refine Below.setCell ?_ ?_ _) | (with_reducible refine Rd.below_setRow ?_ ?_ _) | go_size | (simp only [World.size_alloc]; omega) | omega)
      have TW := hT.below L1 h0
      have lA := blk_lt bA
      have lC := blk_lt bC
      have lG := blk_lt bG
      have lW : 0 < W.heap.size := TW.1
      clear hW
      refine Pred.region_vals (Pred.Of [
          Is (.int .i64 a0),
          Is (.bool false),
          Is (.bool false),
          Is (.bool true),
          Is (.bool true),
          Is (.int .i64 a0),
          Is (.bool false),
          Is (.bool false),
          Is (.bool false),
          Is (undef),
          Is (undef),
          Is (.bool false),
          Is (.bool true),
          Is (.bool true),
          Is (.bool true),
          Is (.int .i64 a0),
          Is (.agg #[.int .u8 (a1_0), .int .u8 (a1_1), .int .u8 (a1_2), .int .u8 (a1_3)]),
          Is (.agg (gotV (a2_0) (a2_1) (a2_2) (a2_3) a3)),
          Is (.agg #[.int .u8 (pixK a0 a1_0 a2_0 a3), .int .u8 (pixK a0 a1_1 a2_1 a3), .int .u8 (pixK a0 a1_2 a2_2 a3), .int .u8 (pixK a0 a1_3 a2_3 a3)]),
          Is (.int .i64 a0),
          Is (.agg #[.int .u8 (a1_0), .int .u8 (a1_1), .int .u8 (a1_2), .int .u8 (a1_3)]),
          Is (.agg #[.int .u8 (a2_0), .int .u8 (a2_1), .int .u8 (a2_2), .int .u8 (a2_3)]),
          Is (.bool a3),
          Is (.agg (gotV (a2_0) (a2_1) (a2_2) (a2_3) a3)),
          Is (.agg #[.int .u8 (pixK a0 a1_0 a2_0 a3), .int .u8 (pixK a0 a1_1 a2_1 a3), .int .u8 (pixK a0 a1_2 a2_2 a3), .int .u8 (pixK a0 a1_3 a2_3 a3)]),
          Is (.bool true),
          Is (.bool true),
          Is (.bool true),
          Is (.bool true),
          Is (.bool true),
          Is (.bool true)]) (by kernel_rfl) (by kernel_rfl) (by kernel_rfl) (Pred.of_stab ?_) ?_ ?_
      · exact ⟨is_stab _, is_stab _, is_stab _, is_stab _, is_stab _, is_stab _, is_stab _, is_stab _, is_stab _, is_stab _, is_stab _, is_stab _, is_stab _, is_stab _, is_stab _, is_stab _, is_stab _, is_stab _, is_stab _, is_stab _, is_stab _, is_stab _, is_stab _, is_stab _, is_stab _, is_stab _, is_stab _, is_stab _, is_stab _, is_stab _, is_stab _, trivial⟩
      · refine ⟨?_, ?_, ?_, ?_, ?_, ?_, ?_, ?_, ?_, ?_, ?_, ?_, ?_, ?_, ?_, ?_, ?_, ?_, ?_, ?_, ?_, ?_, ?_, ?_, ?_, ?_, ?_, ?_, ?_, ?_, ?_, trivial⟩
        · intro b X hE hd hn hV
          have r0 : b.tmps[0]?.getD undef = .int .i64 a0 := (hn 0 (by kernel_rfl)).trans rfl
          exact Pred.yields_run (v := .int .i64 a0) (Pred.wanted_none rfl) (by go_simp) ⟨Pred.ext_refl _ _, rfl⟩
        · intro b X hE hd hn hV
          have r20 : b.tmps[20]?.getD undef = .int .i64 a0 := hV 0 _ 20 rfl rfl (Pred.waits_near (by kernel_rfl) (by kernel_rfl))
          have tb := TW.below hE lW
          refine Pred.yields_call (f := 6) (args := #[.int .i64 a0]) (Pred.wanted_none rfl) (by go_simp) ?_
          exact (mayQ a0 false hm _).mono fun e w2 ⟨he, hb⟩ => ⟨_, he, Pred.ext_below hb hE.size, rfl⟩
        · intro b X hE hd hn hV
          have r10 : b.tmps[10]?.getD undef = .bool false := (hn 10 (by kernel_rfl)).trans rfl
          exact Pred.yields_run (v := .bool false) (Pred.wanted_none rfl) (by go_simp) ⟨Pred.ext_refl _ _, rfl⟩
        · intro b X hE hd hn hV
          have r21 : b.tmps[21]?.getD undef = .bool false := hV 1 _ 21 rfl rfl (Pred.waits_near (by kernel_rfl) (by kernel_rfl))
          have r22 : b.tmps[22]?.getD undef = .bool false := hV 2 _ 22 rfl rfl (Pred.waits_near (by kernel_rfl) (by kernel_rfl))
          exact Pred.yields_run (v := .bool true) (Pred.wanted_none rfl) (by go_simp) ⟨Pred.ext_refl _ _, rfl⟩
        · intro b X hE hd hn hV
          have r23 : b.tmps[23]?.getD undef = .bool true := hV 3 _ 23 rfl rfl (Pred.waits_near (by kernel_rfl) (by kernel_rfl))
          exact Pred.yields_run (v := .bool true) (Pred.wanted_none rfl) (by go_simp) ⟨Pred.ext_refl _ _, rfl⟩
        · intro b X hE hd hn hV
          have r0 : b.tmps[0]?.getD undef = .int .i64 a0 := (hn 0 (by kernel_rfl)).trans rfl
          have r24 : b.tmps[24]?.getD undef = .bool true := hV 4 _ 24 rfl rfl (Pred.waits_near (by kernel_rfl) (by kernel_rfl))
          exact Pred.yields_run (v := .int .i64 a0) ((Pred.wanted_at (g := 4) (d := 24) (f := true) rfl rfl r24).trans rfl) (by go_simp) ⟨Pred.ext_refl _ _, rfl⟩
        · intro b X hE hd hn hV
          have r25 : b.tmps[25]?.getD undef = .int .i64 a0 := hV 5 _ 25 rfl rfl (Pred.waits_near (by kernel_rfl) (by kernel_rfl))
          have r24 : b.tmps[24]?.getD undef = .bool true := hV 4 _ 24 rfl rfl (Pred.waits_near (by kernel_rfl) (by kernel_rfl))
          have tb := TW.below hE lW
          refine Pred.yields_call (f := 7) (args := #[.int .i64 a0]) ((Pred.wanted_at (g := 4) (d := 24) (f := true) rfl rfl r24).trans rfl) (by go_simp) ?_
          exact (asksQ a0 false ha _ tb).mono fun e w2 ⟨he, hb⟩ => ⟨_, he, Pred.ext_below hb hE.size, rfl⟩
        · intro b X hE hd hn hV
          have r10 : b.tmps[10]?.getD undef = .bool false := (hn 10 (by kernel_rfl)).trans rfl
          have r24 : b.tmps[24]?.getD undef = .bool true := hV 4 _ 24 rfl rfl (Pred.waits_near (by kernel_rfl) (by kernel_rfl))
          exact Pred.yields_run (v := .bool false) ((Pred.wanted_at (g := 4) (d := 24) (f := true) rfl rfl r24).trans rfl) (by go_simp) ⟨Pred.ext_refl _ _, rfl⟩
        · intro b X hE hd hn hV
          have r27 : b.tmps[27]?.getD undef = .bool false := hV 7 _ 27 rfl rfl (Pred.waits_near (by kernel_rfl) (by kernel_rfl))
          have r24 : b.tmps[24]?.getD undef = .bool true := hV 4 _ 24 rfl rfl (Pred.waits_near (by kernel_rfl) (by kernel_rfl))
          exact Pred.yields_run (v := .bool false) ((Pred.wanted_at (g := 4) (d := 24) (f := true) rfl rfl r24).trans rfl) (by go_simp) ⟨Pred.ext_refl _ _, rfl⟩
        · intro b X hE hd hn hV
          have r28 : b.tmps[28]?.getD undef = .bool false := hV 8 _ 28 rfl rfl (Pred.waits_near (by kernel_rfl) (by kernel_rfl))
          exact Pred.yields_not ((Pred.wanted_at (g := 8) (d := 28) (f := true) rfl rfl r28).trans rfl) ⟨Pred.ext_refl _ _, rfl⟩
        · intro b X hE hd hn hV
          have r28 : b.tmps[28]?.getD undef = .bool false := hV 8 _ 28 rfl rfl (Pred.waits_near (by kernel_rfl) (by kernel_rfl))
          exact Pred.yields_not ((Pred.wanted_at (g := 8) (d := 28) (f := true) rfl rfl r28).trans rfl) ⟨Pred.ext_refl _ _, rfl⟩
        · intro b X hE hd hn hV
          have r28 : b.tmps[28]?.getD undef = .bool false := hV 8 _ 28 rfl rfl (Pred.waits_near (by kernel_rfl) (by kernel_rfl))
          have r30 : b.tmps[30]?.getD undef = undef := hV 10 _ 30 rfl rfl (Pred.waits_near (by kernel_rfl) (by kernel_rfl))
          have r24 : b.tmps[24]?.getD undef = .bool true := hV 4 _ 24 rfl rfl (Pred.waits_near (by kernel_rfl) (by kernel_rfl))
          exact Pred.yields_run (v := .bool false) ((Pred.wanted_at (g := 4) (d := 24) (f := true) rfl rfl r24).trans rfl) (by go_simp) ⟨Pred.ext_refl _ _, rfl⟩
        · intro b X hE hd hn hV
          have r26 : b.tmps[26]?.getD undef = .bool false := hV 6 _ 26 rfl rfl (Pred.waits_near (by kernel_rfl) (by kernel_rfl))
          have r31 : b.tmps[31]?.getD undef = .bool false := hV 11 _ 31 rfl rfl (Pred.waits_near (by kernel_rfl) (by kernel_rfl))
          have r24 : b.tmps[24]?.getD undef = .bool true := hV 4 _ 24 rfl rfl (Pred.waits_near (by kernel_rfl) (by kernel_rfl))
          exact Pred.yields_run (v := .bool true) ((Pred.wanted_at (g := 4) (d := 24) (f := true) rfl rfl r24).trans rfl) (by go_simp) ⟨Pred.ext_refl _ _, rfl⟩
        · intro b X hE hd hn hV
          have r24 : b.tmps[24]?.getD undef = .bool true := hV 4 _ 24 rfl rfl (Pred.waits_near (by kernel_rfl) (by kernel_rfl))
          have r32 : b.tmps[32]?.getD undef = .bool true := hV 12 _ 32 rfl rfl (Pred.waits_near (by kernel_rfl) (by kernel_rfl))
          exact Pred.yields_run (v := .bool true) (Pred.wanted_none rfl) (by go_simp) ⟨Pred.ext_refl _ _, rfl⟩
        · intro b X hE hd hn hV
          have r33 : b.tmps[33]?.getD undef = .bool true := hV 13 _ 33 rfl rfl (Pred.waits_near (by kernel_rfl) (by kernel_rfl))
          exact Pred.yields_run (v := .bool true) (Pred.wanted_none rfl) (by go_simp) ⟨Pred.ext_refl _ _, rfl⟩
        · intro b X hE hd hn hV
          have r0 : b.tmps[0]?.getD undef = .int .i64 a0 := (hn 0 (by kernel_rfl)).trans rfl
          have r34 : b.tmps[34]?.getD undef = .bool true := hV 14 _ 34 rfl rfl (Pred.waits_near (by kernel_rfl) (by kernel_rfl))
          exact Pred.yields_run (v := .int .i64 a0) ((Pred.wanted_at (g := 14) (d := 34) (f := true) rfl rfl r34).trans rfl) (by go_simp) ⟨Pred.ext_refl _ _, rfl⟩
        · intro b X hE hd hn hV
          have r5 : b.tmps[5]?.getD undef = .pointer (some ⟨w.heap.size, 0, none⟩) := (hn 5 (by kernel_rfl)).trans rfl
          have r34 : b.tmps[34]?.getD undef = .bool true := hV 14 _ 34 rfl rfl (Pred.waits_near (by kernel_rfl) (by kernel_rfl))
          have q := (blk_below hE _ lA).trans bA
          exact Pred.yields_run (v := .agg #[.int .u8 (a1_0), .int .u8 (a1_1), .int .u8 (a1_2), .int .u8 (a1_3)]) ((Pred.wanted_at (g := 14) (d := 34) (f := true) rfl rfl r34).trans rfl) (by go_simp) ⟨Pred.ext_refl _ _, rfl⟩
        · intro b X hE hd hn hV
          have r9 : b.tmps[9]?.getD undef = .pointer (some ⟨w.heap.size + 1 + 1, 0, none⟩) := (hn 9 (by kernel_rfl)).trans rfl
          have r34 : b.tmps[34]?.getD undef = .bool true := hV 14 _ 34 rfl rfl (Pred.waits_near (by kernel_rfl) (by kernel_rfl))
          have q := (blk_below hE _ lG).trans bG
          exact Pred.yields_run (v := .agg (gotV (a2_0) (a2_1) (a2_2) (a2_3) a3)) ((Pred.wanted_at (g := 14) (d := 34) (f := true) rfl rfl r34).trans rfl) (by go_simp) ⟨Pred.ext_refl _ _, rfl⟩
        · intro b X hE hd hn hV
          have r35 : b.tmps[35]?.getD undef = .int .i64 a0 := hV 15 _ 35 rfl rfl (Pred.waits_near (by kernel_rfl) (by kernel_rfl))
          have r36 : b.tmps[36]?.getD undef = .agg #[.int .u8 (a1_0), .int .u8 (a1_1), .int .u8 (a1_2), .int .u8 (a1_3)] := hV 16 _ 36 rfl rfl (Pred.waits_near (by kernel_rfl) (by kernel_rfl))
          have r37 : b.tmps[37]?.getD undef = .agg (gotV (a2_0) (a2_1) (a2_2) (a2_3) a3) := hV 17 _ 37 rfl rfl (Pred.waits_near (by kernel_rfl) (by kernel_rfl))
          have r34 : b.tmps[34]?.getD undef = .bool true := hV 14 _ 34 rfl rfl (Pred.waits_near (by kernel_rfl) (by kernel_rfl))
          have tb := TW.below hE lW
          refine Pred.yields_call (f := 8) (args := #[.int .i64 a0, .agg #[.int .u8 (a1_0), .int .u8 (a1_1), .int .u8 (a1_2), .int .u8 (a1_3)], .agg (gotV (a2_0) (a2_1) (a2_2) (a2_3) a3)]) ((Pred.wanted_at (g := 14) (d := 34) (f := true) rfl rfl r34).trans rfl) (by go_simp) ?_
          exact (pixel_any a0 a1_0 a1_1 a1_2 a1_3 a2_0 a2_1 a2_2 a2_3 a3 _ pa0 pa1 pa2 pa3 pc0 pc1 pc2 pc3 tb).mono fun e w2 ⟨he, hb⟩ => ⟨_, he, Pred.ext_below hb hE.size, rfl⟩
        · intro b X hE hd hn hV
          have r0 : b.tmps[0]?.getD undef = .int .i64 a0 := (hn 0 (by kernel_rfl)).trans rfl
          have r34 : b.tmps[34]?.getD undef = .bool true := hV 14 _ 34 rfl rfl (Pred.waits_near (by kernel_rfl) (by kernel_rfl))
          exact Pred.yields_run (v := .int .i64 a0) ((Pred.wanted_at (g := 14) (d := 34) (f := true) rfl rfl r34).trans rfl) (by go_simp) ⟨Pred.ext_refl _ _, rfl⟩
        · intro b X hE hd hn hV
          have r5 : b.tmps[5]?.getD undef = .pointer (some ⟨w.heap.size, 0, none⟩) := (hn 5 (by kernel_rfl)).trans rfl
          have r34 : b.tmps[34]?.getD undef = .bool true := hV 14 _ 34 rfl rfl (Pred.waits_near (by kernel_rfl) (by kernel_rfl))
          have q := (blk_below hE _ lA).trans bA
          exact Pred.yields_run (v := .agg #[.int .u8 (a1_0), .int .u8 (a1_1), .int .u8 (a1_2), .int .u8 (a1_3)]) ((Pred.wanted_at (g := 14) (d := 34) (f := true) rfl rfl r34).trans rfl) (by go_simp) ⟨Pred.ext_refl _ _, rfl⟩
        · intro b X hE hd hn hV
          have r6 : b.tmps[6]?.getD undef = .pointer (some ⟨w.heap.size + 1, 0, none⟩) := (hn 6 (by kernel_rfl)).trans rfl
          have r34 : b.tmps[34]?.getD undef = .bool true := hV 14 _ 34 rfl rfl (Pred.waits_near (by kernel_rfl) (by kernel_rfl))
          have q := (blk_below hE _ lC).trans bC
          exact Pred.yields_run (v := .agg #[.int .u8 (a2_0), .int .u8 (a2_1), .int .u8 (a2_2), .int .u8 (a2_3)]) ((Pred.wanted_at (g := 14) (d := 34) (f := true) rfl rfl r34).trans rfl) (by go_simp) ⟨Pred.ext_refl _ _, rfl⟩
        · intro b X hE hd hn hV
          have r3 : b.tmps[3]?.getD undef = .bool a3 := (hn 3 (by kernel_rfl)).trans rfl
          have r34 : b.tmps[34]?.getD undef = .bool true := hV 14 _ 34 rfl rfl (Pred.waits_near (by kernel_rfl) (by kernel_rfl))
          exact Pred.yields_run (v := .bool a3) ((Pred.wanted_at (g := 14) (d := 34) (f := true) rfl rfl r34).trans rfl) (by go_simp) ⟨Pred.ext_refl _ _, rfl⟩
        · intro b X hE hd hn hV
          have r41 : b.tmps[41]?.getD undef = .agg #[.int .u8 (a2_0), .int .u8 (a2_1), .int .u8 (a2_2), .int .u8 (a2_3)] := hV 21 _ 41 rfl rfl (Pred.waits_near (by kernel_rfl) (by kernel_rfl))
          have r42 : b.tmps[42]?.getD undef = .bool a3 := hV 22 _ 42 rfl rfl (Pred.waits_near (by kernel_rfl) (by kernel_rfl))
          have r34 : b.tmps[34]?.getD undef = .bool true := hV 14 _ 34 rfl rfl (Pred.waits_near (by kernel_rfl) (by kernel_rfl))
          exact Pred.yields_run (v := .agg (gotV (a2_0) (a2_1) (a2_2) (a2_3) a3)) ((Pred.wanted_at (g := 14) (d := 34) (f := true) rfl rfl r34).trans rfl) (by first | (go_simp; done) | (go_simp; rfl)) ⟨Pred.ext_refl _ _, rfl⟩
        · intro b X hE hd hn hV
          have r39 : b.tmps[39]?.getD undef = .int .i64 a0 := hV 19 _ 39 rfl rfl (Pred.waits_near (by kernel_rfl) (by kernel_rfl))
          have r40 : b.tmps[40]?.getD undef = .agg #[.int .u8 (a1_0), .int .u8 (a1_1), .int .u8 (a1_2), .int .u8 (a1_3)] := hV 20 _ 40 rfl rfl (Pred.waits_near (by kernel_rfl) (by kernel_rfl))
          have r43 : b.tmps[43]?.getD undef = .agg (gotV (a2_0) (a2_1) (a2_2) (a2_3) a3) := hV 23 _ 43 rfl rfl (Pred.waits_near (by kernel_rfl) (by kernel_rfl))
          have r34 : b.tmps[34]?.getD undef = .bool true := hV 14 _ 34 rfl rfl (Pred.waits_near (by kernel_rfl) (by kernel_rfl))
          have tb := TW.below hE lW
          refine Pred.yields_call (f := 9) (args := #[.int .i64 a0, .agg #[.int .u8 (a1_0), .int .u8 (a1_1), .int .u8 (a1_2), .int .u8 (a1_3)], .agg (gotV (a2_0) (a2_1) (a2_2) (a2_3) a3)]) ((Pred.wanted_at (g := 14) (d := 34) (f := true) rfl rfl r34).trans rfl) (by go_simp) ?_
          exact (rpixel_any a0 a1_0 a1_1 a1_2 a1_3 a2_0 a2_1 a2_2 a2_3 a3 _ pa0 pa1 pa2 pa3 pc0 pc1 pc2 pc3).mono fun e w2 ⟨he, hb⟩ => ⟨_, he, Pred.ext_below hb hE.size, rfl⟩
        · intro b X hE hd hn hV
          have r38 : b.tmps[38]?.getD undef = .agg #[.int .u8 (pixK a0 a1_0 a2_0 a3), .int .u8 (pixK a0 a1_1 a2_1 a3), .int .u8 (pixK a0 a1_2 a2_2 a3), .int .u8 (pixK a0 a1_3 a2_3 a3)] := hV 18 _ 38 rfl rfl (Pred.waits_near (by kernel_rfl) (by kernel_rfl))
          have r44 : b.tmps[44]?.getD undef = .agg #[.int .u8 (pixK a0 a1_0 a2_0 a3), .int .u8 (pixK a0 a1_1 a2_1 a3), .int .u8 (pixK a0 a1_2 a2_2 a3), .int .u8 (pixK a0 a1_3 a2_3 a3)] := hV 24 _ 44 rfl rfl (Pred.waits_near (by kernel_rfl) (by kernel_rfl))
          have r34 : b.tmps[34]?.getD undef = .bool true := hV 14 _ 34 rfl rfl (Pred.waits_near (by kernel_rfl) (by kernel_rfl))
          exact Pred.yields_run (v := .bool true) ((Pred.wanted_at (g := 14) (d := 34) (f := true) rfl rfl r34).trans rfl) (by go_simp) ⟨Pred.ext_refl _ _, rfl⟩
        · intro b X hE hd hn hV
          have r34 : b.tmps[34]?.getD undef = .bool true := hV 14 _ 34 rfl rfl (Pred.waits_near (by kernel_rfl) (by kernel_rfl))
          have r45 : b.tmps[45]?.getD undef = .bool true := hV 25 _ 45 rfl rfl (Pred.waits_near (by kernel_rfl) (by kernel_rfl))
          exact Pred.yields_run (v := .bool true) (Pred.wanted_none rfl) (by go_simp) ⟨Pred.ext_refl _ _, rfl⟩
        · intro b X hE hd hn hV
          have r46 : b.tmps[46]?.getD undef = .bool true := hV 26 _ 46 rfl rfl (Pred.waits_near (by kernel_rfl) (by kernel_rfl))
          exact Pred.yields_run (v := .bool true) (Pred.wanted_none rfl) (by go_simp) ⟨Pred.ext_refl _ _, rfl⟩
        · intro b X hE hd hn hV
          have r47 : b.tmps[47]?.getD undef = .bool true := hV 27 _ 47 rfl rfl (Pred.waits_near (by kernel_rfl) (by kernel_rfl))
          have tb := TW.below hE lW
          refine Pred.yields_call (f := 10) (args := #[]) ((Pred.wanted_at (g := 27) (d := 47) (f := true) rfl rfl r47).trans rfl) (by go_simp) ?_
          exact (awake_any _ tb).mono fun e w2 ⟨he, hb⟩ => ⟨_, he, Pred.ext_below hb hE.size, rfl⟩
        · intro b X hE hd hn hV
          have r47 : b.tmps[47]?.getD undef = .bool true := hV 27 _ 47 rfl rfl (Pred.waits_near (by kernel_rfl) (by kernel_rfl))
          have r48 : b.tmps[48]?.getD undef = .bool true := hV 28 _ 48 rfl rfl (Pred.waits_near (by kernel_rfl) (by kernel_rfl))
          exact Pred.yields_run (v := .bool true) (Pred.wanted_none rfl) (by go_simp) ⟨Pred.ext_refl _ _, rfl⟩
        · intro b X hE hd hn hV
          have r49 : b.tmps[49]?.getD undef = .bool true := hV 29 _ 49 rfl rfl (Pred.waits_near (by kernel_rfl) (by kernel_rfl))
          exact Pred.yields_run (v := .bool true) (Pred.wanted_none rfl) (by go_simp) ⟨Pred.ext_refl _ _, rfl⟩
      intro v X hE hv
      have e0 : v 0 = .int .i64 a0 := hv 0 _ 20 rfl rfl
      have e1 : v 1 = .bool false := hv 1 _ 21 rfl rfl
      have e2 : v 2 = .bool false := hv 2 _ 22 rfl rfl
      have e3 : v 3 = .bool true := hv 3 _ 23 rfl rfl
      have e4 : v 4 = .bool true := hv 4 _ 24 rfl rfl
      have e5 : v 5 = .int .i64 a0 := hv 5 _ 25 rfl rfl
      have e6 : v 6 = .bool false := hv 6 _ 26 rfl rfl
      have e7 : v 7 = .bool false := hv 7 _ 27 rfl rfl
      have e8 : v 8 = .bool false := hv 8 _ 28 rfl rfl
      have e9 : v 9 = undef := hv 9 _ 29 rfl rfl
      have e10 : v 10 = undef := hv 10 _ 30 rfl rfl
      have e11 : v 11 = .bool false := hv 11 _ 31 rfl rfl
      have e12 : v 12 = .bool true := hv 12 _ 32 rfl rfl
      have e13 : v 13 = .bool true := hv 13 _ 33 rfl rfl
      have e14 : v 14 = .bool true := hv 14 _ 34 rfl rfl
      have e15 : v 15 = .int .i64 a0 := hv 15 _ 35 rfl rfl
      have e16 : v 16 = .agg #[.int .u8 (a1_0), .int .u8 (a1_1), .int .u8 (a1_2), .int .u8 (a1_3)] := hv 16 _ 36 rfl rfl
      have e17 : v 17 = .agg (gotV (a2_0) (a2_1) (a2_2) (a2_3) a3) := hv 17 _ 37 rfl rfl
      have e18 : v 18 = .agg #[.int .u8 (pixK a0 a1_0 a2_0 a3), .int .u8 (pixK a0 a1_1 a2_1 a3), .int .u8 (pixK a0 a1_2 a2_2 a3), .int .u8 (pixK a0 a1_3 a2_3 a3)] := hv 18 _ 38 rfl rfl
      have e19 : v 19 = .int .i64 a0 := hv 19 _ 39 rfl rfl
      have e20 : v 20 = .agg #[.int .u8 (a1_0), .int .u8 (a1_1), .int .u8 (a1_2), .int .u8 (a1_3)] := hv 20 _ 40 rfl rfl
      have e21 : v 21 = .agg #[.int .u8 (a2_0), .int .u8 (a2_1), .int .u8 (a2_2), .int .u8 (a2_3)] := hv 21 _ 41 rfl rfl
      have e22 : v 22 = .bool a3 := hv 22 _ 42 rfl rfl
      have e23 : v 23 = .agg (gotV (a2_0) (a2_1) (a2_2) (a2_3) a3) := hv 23 _ 43 rfl rfl
      have e24 : v 24 = .agg #[.int .u8 (pixK a0 a1_0 a2_0 a3), .int .u8 (pixK a0 a1_1 a2_1 a3), .int .u8 (pixK a0 a1_2 a2_2 a3), .int .u8 (pixK a0 a1_3 a2_3 a3)] := hv 24 _ 44 rfl rfl
      have e25 : v 25 = .bool true := hv 25 _ 45 rfl rfl
      have e26 : v 26 = .bool true := hv 26 _ 46 rfl rfl
      have e27 : v 27 = .bool true := hv 27 _ 47 rfl rfl
      have e28 : v 28 = .bool true := hv 28 _ 48 rfl rfl
      have e29 : v 29 = .bool true := hv 29 _ 49 rfl rfl
      have e30 : v 30 = .bool true := hv 30 _ 8 rfl rfl
      simp only [Pred.putsF_cons, Pred.putsF_nil, Nat.zero_add, Nat.reduceAdd, e0, e1, e2, e3, e4, e5, e6, e7, e8, e9, e10, e11, e12, e13, e14, e15, e16, e17, e18, e19, e20, e21, e22, e23, e24, e25, e26, e27, e28, e29, e30, Act.put, List.setIfInBounds_toArray, List.set_cons_zero, List.set_cons_succ]
      clear e0 e1 e2 e3 e4 e5 e6 e7 e8 e9 e10 e11 e12 e13 e14 e15 e16 e17 e18 e19 e20 e21 e22 e23 e24 e25 e26 e27 e28 e29 e30 hv
      have sX := hE.size
      have L2 : Below w.heap.size w X := L1.trans (hE.mono L1.size)
      go_wp2
      go_ret
      exact ⟨rfl, L2⟩
  · have hm : mayS a0 = false := by simp [mayS]; omega
    have ha : asksS a0 = false := by simp [asksS, hm]
    go_enter Tryd.func3, Tryd.ntmps3
    go_upto_region 3 with (fail)
    refine Rd.name_world ?_
    intro W hW
    have bA : blk W w.heap.size = some (.cells #[.int .u8 (a1_0), .int .u8 (a1_1), .int .u8 (a1_2), .int .u8 (a1_3)] 23 (0, 0)) := by rw [hW, blk_alloc_old _ _ _ (by simp; omega)]; exact blk2_0 w _ _
    have bG : blk W (w.heap.size + 1 + 1) = some (.cells (gotV a2_0 a2_1 a2_2 a2_3 a3) 26 (0, 0)) := by rw [hW]; exact blk_alloc_at _ _ _ (by simp)
    have bC : blk W (w.heap.size + 1) = some (.cells #[.int .u8 (a2_0), .int .u8 (a2_1), .int .u8 (a2_2), .int .u8 (a2_3)] 23 (0, 0)) := by rw [hW, blk_alloc_old _ _ _ (by simp)]; exact blk2_1 w _ _
    have L1 : Below w.heap.size w W := by rw [hW]; repeat' (first | (with_reducible exact Below.refl _ _) | (with_reducible refine Rd.below_step ?_ (by assumption)) | (with_reducible refine Rd.below_alloc ?_ _) | (with_reducible refine Rd.below_drewN ?_ _) | (with_reducible refine Below.drew ?_) | (with_reducible refine Below.setCell ?_ ?_ _) | (with_reducible refine Rd.below_setRow ?_ ?_ _) | go_size | (simp only [World.size_alloc]; omega) | omega)
    have TW := hT.below L1 h0
    have lA := blk_lt bA
    have lC := blk_lt bC
    have lG := blk_lt bG
    have lW : 0 < W.heap.size := TW.1
    clear hW
    refine Pred.region_vals (Pred.Of [
        Is (.int .i64 a0),
        Is (.bool false),
        Is (.bool false),
        Is (.bool true),
        Is (.bool true),
        Is (.int .i64 a0),
        Is (.bool false),
        Is (.bool false),
        Is (.bool false),
        Is (undef),
        Is (undef),
        Is (.bool false),
        Is (.bool true),
        Is (.bool true),
        Is (.bool true),
        Is (.int .i64 a0),
        Is (.agg #[.int .u8 (a1_0), .int .u8 (a1_1), .int .u8 (a1_2), .int .u8 (a1_3)]),
        Is (.agg (gotV (a2_0) (a2_1) (a2_2) (a2_3) a3)),
        Is (.agg #[.int .u8 (pixK a0 a1_0 a2_0 a3), .int .u8 (pixK a0 a1_1 a2_1 a3), .int .u8 (pixK a0 a1_2 a2_2 a3), .int .u8 (pixK a0 a1_3 a2_3 a3)]),
        Is (.int .i64 a0),
        Is (.agg #[.int .u8 (a1_0), .int .u8 (a1_1), .int .u8 (a1_2), .int .u8 (a1_3)]),
        Is (.agg #[.int .u8 (a2_0), .int .u8 (a2_1), .int .u8 (a2_2), .int .u8 (a2_3)]),
        Is (.bool a3),
        Is (.agg (gotV (a2_0) (a2_1) (a2_2) (a2_3) a3)),
        Is (.agg #[.int .u8 (pixK a0 a1_0 a2_0 a3), .int .u8 (pixK a0 a1_1 a2_1 a3), .int .u8 (pixK a0 a1_2 a2_2 a3), .int .u8 (pixK a0 a1_3 a2_3 a3)]),
        Is (.bool true),
        Is (.bool true),
        Is (.bool true),
        Is (.bool true),
        Is (.bool true),
        Is (.bool true)]) (by kernel_rfl) (by kernel_rfl) (by kernel_rfl) (Pred.of_stab ?_) ?_ ?_
    · exact ⟨is_stab _, is_stab _, is_stab _, is_stab _, is_stab _, is_stab _, is_stab _, is_stab _, is_stab _, is_stab _, is_stab _, is_stab _, is_stab _, is_stab _, is_stab _, is_stab _, is_stab _, is_stab _, is_stab _, is_stab _, is_stab _, is_stab _, is_stab _, is_stab _, is_stab _, is_stab _, is_stab _, is_stab _, is_stab _, is_stab _, is_stab _, trivial⟩
    · refine ⟨?_, ?_, ?_, ?_, ?_, ?_, ?_, ?_, ?_, ?_, ?_, ?_, ?_, ?_, ?_, ?_, ?_, ?_, ?_, ?_, ?_, ?_, ?_, ?_, ?_, ?_, ?_, ?_, ?_, ?_, ?_, trivial⟩
      · intro b X hE hd hn hV
        have r0 : b.tmps[0]?.getD undef = .int .i64 a0 := (hn 0 (by kernel_rfl)).trans rfl
        exact Pred.yields_run (v := .int .i64 a0) (Pred.wanted_none rfl) (by go_simp) ⟨Pred.ext_refl _ _, rfl⟩
      · intro b X hE hd hn hV
        have r20 : b.tmps[20]?.getD undef = .int .i64 a0 := hV 0 _ 20 rfl rfl (Pred.waits_near (by kernel_rfl) (by kernel_rfl))
        have tb := TW.below hE lW
        refine Pred.yields_call (f := 6) (args := #[.int .i64 a0]) (Pred.wanted_none rfl) (by go_simp) ?_
        exact (mayQ a0 false hm _).mono fun e w2 ⟨he, hb⟩ => ⟨_, he, Pred.ext_below hb hE.size, rfl⟩
      · intro b X hE hd hn hV
        have r10 : b.tmps[10]?.getD undef = .bool false := (hn 10 (by kernel_rfl)).trans rfl
        exact Pred.yields_run (v := .bool false) (Pred.wanted_none rfl) (by go_simp) ⟨Pred.ext_refl _ _, rfl⟩
      · intro b X hE hd hn hV
        have r21 : b.tmps[21]?.getD undef = .bool false := hV 1 _ 21 rfl rfl (Pred.waits_near (by kernel_rfl) (by kernel_rfl))
        have r22 : b.tmps[22]?.getD undef = .bool false := hV 2 _ 22 rfl rfl (Pred.waits_near (by kernel_rfl) (by kernel_rfl))
        exact Pred.yields_run (v := .bool true) (Pred.wanted_none rfl) (by go_simp) ⟨Pred.ext_refl _ _, rfl⟩
      · intro b X hE hd hn hV
        have r23 : b.tmps[23]?.getD undef = .bool true := hV 3 _ 23 rfl rfl (Pred.waits_near (by kernel_rfl) (by kernel_rfl))
        exact Pred.yields_run (v := .bool true) (Pred.wanted_none rfl) (by go_simp) ⟨Pred.ext_refl _ _, rfl⟩
      · intro b X hE hd hn hV
        have r0 : b.tmps[0]?.getD undef = .int .i64 a0 := (hn 0 (by kernel_rfl)).trans rfl
        have r24 : b.tmps[24]?.getD undef = .bool true := hV 4 _ 24 rfl rfl (Pred.waits_near (by kernel_rfl) (by kernel_rfl))
        exact Pred.yields_run (v := .int .i64 a0) ((Pred.wanted_at (g := 4) (d := 24) (f := true) rfl rfl r24).trans rfl) (by go_simp) ⟨Pred.ext_refl _ _, rfl⟩
      · intro b X hE hd hn hV
        have r25 : b.tmps[25]?.getD undef = .int .i64 a0 := hV 5 _ 25 rfl rfl (Pred.waits_near (by kernel_rfl) (by kernel_rfl))
        have r24 : b.tmps[24]?.getD undef = .bool true := hV 4 _ 24 rfl rfl (Pred.waits_near (by kernel_rfl) (by kernel_rfl))
        have tb := TW.below hE lW
        refine Pred.yields_call (f := 7) (args := #[.int .i64 a0]) ((Pred.wanted_at (g := 4) (d := 24) (f := true) rfl rfl r24).trans rfl) (by go_simp) ?_
        exact (asksQ a0 false ha _ tb).mono fun e w2 ⟨he, hb⟩ => ⟨_, he, Pred.ext_below hb hE.size, rfl⟩
      · intro b X hE hd hn hV
        have r10 : b.tmps[10]?.getD undef = .bool false := (hn 10 (by kernel_rfl)).trans rfl
        have r24 : b.tmps[24]?.getD undef = .bool true := hV 4 _ 24 rfl rfl (Pred.waits_near (by kernel_rfl) (by kernel_rfl))
        exact Pred.yields_run (v := .bool false) ((Pred.wanted_at (g := 4) (d := 24) (f := true) rfl rfl r24).trans rfl) (by go_simp) ⟨Pred.ext_refl _ _, rfl⟩
      · intro b X hE hd hn hV
        have r27 : b.tmps[27]?.getD undef = .bool false := hV 7 _ 27 rfl rfl (Pred.waits_near (by kernel_rfl) (by kernel_rfl))
        have r24 : b.tmps[24]?.getD undef = .bool true := hV 4 _ 24 rfl rfl (Pred.waits_near (by kernel_rfl) (by kernel_rfl))
        exact Pred.yields_run (v := .bool false) ((Pred.wanted_at (g := 4) (d := 24) (f := true) rfl rfl r24).trans rfl) (by go_simp) ⟨Pred.ext_refl _ _, rfl⟩
      · intro b X hE hd hn hV
        have r28 : b.tmps[28]?.getD undef = .bool false := hV 8 _ 28 rfl rfl (Pred.waits_near (by kernel_rfl) (by kernel_rfl))
        exact Pred.yields_not ((Pred.wanted_at (g := 8) (d := 28) (f := true) rfl rfl r28).trans rfl) ⟨Pred.ext_refl _ _, rfl⟩
      · intro b X hE hd hn hV
        have r28 : b.tmps[28]?.getD undef = .bool false := hV 8 _ 28 rfl rfl (Pred.waits_near (by kernel_rfl) (by kernel_rfl))
        exact Pred.yields_not ((Pred.wanted_at (g := 8) (d := 28) (f := true) rfl rfl r28).trans rfl) ⟨Pred.ext_refl _ _, rfl⟩
      · intro b X hE hd hn hV
        have r28 : b.tmps[28]?.getD undef = .bool false := hV 8 _ 28 rfl rfl (Pred.waits_near (by kernel_rfl) (by kernel_rfl))
        have r30 : b.tmps[30]?.getD undef = undef := hV 10 _ 30 rfl rfl (Pred.waits_near (by kernel_rfl) (by kernel_rfl))
        have r24 : b.tmps[24]?.getD undef = .bool true := hV 4 _ 24 rfl rfl (Pred.waits_near (by kernel_rfl) (by kernel_rfl))
        exact Pred.yields_run (v := .bool false) ((Pred.wanted_at (g := 4) (d := 24) (f := true) rfl rfl r24).trans rfl) (by go_simp) ⟨Pred.ext_refl _ _, rfl⟩
      · intro b X hE hd hn hV
        have r26 : b.tmps[26]?.getD undef = .bool false := hV 6 _ 26 rfl rfl (Pred.waits_near (by kernel_rfl) (by kernel_rfl))
        have r31 : b.tmps[31]?.getD undef = .bool false := hV 11 _ 31 rfl rfl (Pred.waits_near (by kernel_rfl) (by kernel_rfl))
        have r24 : b.tmps[24]?.getD undef = .bool true := hV 4 _ 24 rfl rfl (Pred.waits_near (by kernel_rfl) (by kernel_rfl))
        exact Pred.yields_run (v := .bool true) ((Pred.wanted_at (g := 4) (d := 24) (f := true) rfl rfl r24).trans rfl) (by go_simp) ⟨Pred.ext_refl _ _, rfl⟩
      · intro b X hE hd hn hV
        have r24 : b.tmps[24]?.getD undef = .bool true := hV 4 _ 24 rfl rfl (Pred.waits_near (by kernel_rfl) (by kernel_rfl))
        have r32 : b.tmps[32]?.getD undef = .bool true := hV 12 _ 32 rfl rfl (Pred.waits_near (by kernel_rfl) (by kernel_rfl))
        exact Pred.yields_run (v := .bool true) (Pred.wanted_none rfl) (by go_simp) ⟨Pred.ext_refl _ _, rfl⟩
      · intro b X hE hd hn hV
        have r33 : b.tmps[33]?.getD undef = .bool true := hV 13 _ 33 rfl rfl (Pred.waits_near (by kernel_rfl) (by kernel_rfl))
        exact Pred.yields_run (v := .bool true) (Pred.wanted_none rfl) (by go_simp) ⟨Pred.ext_refl _ _, rfl⟩
      · intro b X hE hd hn hV
        have r0 : b.tmps[0]?.getD undef = .int .i64 a0 := (hn 0 (by kernel_rfl)).trans rfl
        have r34 : b.tmps[34]?.getD undef = .bool true := hV 14 _ 34 rfl rfl (Pred.waits_near (by kernel_rfl) (by kernel_rfl))
        exact Pred.yields_run (v := .int .i64 a0) ((Pred.wanted_at (g := 14) (d := 34) (f := true) rfl rfl r34).trans rfl) (by go_simp) ⟨Pred.ext_refl _ _, rfl⟩
      · intro b X hE hd hn hV
        have r5 : b.tmps[5]?.getD undef = .pointer (some ⟨w.heap.size, 0, none⟩) := (hn 5 (by kernel_rfl)).trans rfl
        have r34 : b.tmps[34]?.getD undef = .bool true := hV 14 _ 34 rfl rfl (Pred.waits_near (by kernel_rfl) (by kernel_rfl))
        have q := (blk_below hE _ lA).trans bA
        exact Pred.yields_run (v := .agg #[.int .u8 (a1_0), .int .u8 (a1_1), .int .u8 (a1_2), .int .u8 (a1_3)]) ((Pred.wanted_at (g := 14) (d := 34) (f := true) rfl rfl r34).trans rfl) (by go_simp) ⟨Pred.ext_refl _ _, rfl⟩
      · intro b X hE hd hn hV
        have r9 : b.tmps[9]?.getD undef = .pointer (some ⟨w.heap.size + 1 + 1, 0, none⟩) := (hn 9 (by kernel_rfl)).trans rfl
        have r34 : b.tmps[34]?.getD undef = .bool true := hV 14 _ 34 rfl rfl (Pred.waits_near (by kernel_rfl) (by kernel_rfl))
        have q := (blk_below hE _ lG).trans bG
        exact Pred.yields_run (v := .agg (gotV (a2_0) (a2_1) (a2_2) (a2_3) a3)) ((Pred.wanted_at (g := 14) (d := 34) (f := true) rfl rfl r34).trans rfl) (by go_simp) ⟨Pred.ext_refl _ _, rfl⟩
      · intro b X hE hd hn hV
        have r35 : b.tmps[35]?.getD undef = .int .i64 a0 := hV 15 _ 35 rfl rfl (Pred.waits_near (by kernel_rfl) (by kernel_rfl))
        have r36 : b.tmps[36]?.getD undef = .agg #[.int .u8 (a1_0), .int .u8 (a1_1), .int .u8 (a1_2), .int .u8 (a1_3)] := hV 16 _ 36 rfl rfl (Pred.waits_near (by kernel_rfl) (by kernel_rfl))
        have r37 : b.tmps[37]?.getD undef = .agg (gotV (a2_0) (a2_1) (a2_2) (a2_3) a3) := hV 17 _ 37 rfl rfl (Pred.waits_near (by kernel_rfl) (by kernel_rfl))
        have r34 : b.tmps[34]?.getD undef = .bool true := hV 14 _ 34 rfl rfl (Pred.waits_near (by kernel_rfl) (by kernel_rfl))
        have tb := TW.below hE lW
        refine Pred.yields_call (f := 8) (args := #[.int .i64 a0, .agg #[.int .u8 (a1_0), .int .u8 (a1_1), .int .u8 (a1_2), .int .u8 (a1_3)], .agg (gotV (a2_0) (a2_1) (a2_2) (a2_3) a3)]) ((Pred.wanted_at (g := 14) (d := 34) (f := true) rfl rfl r34).trans rfl) (by go_simp) ?_
        exact (pixel_any a0 a1_0 a1_1 a1_2 a1_3 a2_0 a2_1 a2_2 a2_3 a3 _ pa0 pa1 pa2 pa3 pc0 pc1 pc2 pc3 tb).mono fun e w2 ⟨he, hb⟩ => ⟨_, he, Pred.ext_below hb hE.size, rfl⟩
      · intro b X hE hd hn hV
        have r0 : b.tmps[0]?.getD undef = .int .i64 a0 := (hn 0 (by kernel_rfl)).trans rfl
        have r34 : b.tmps[34]?.getD undef = .bool true := hV 14 _ 34 rfl rfl (Pred.waits_near (by kernel_rfl) (by kernel_rfl))
        exact Pred.yields_run (v := .int .i64 a0) ((Pred.wanted_at (g := 14) (d := 34) (f := true) rfl rfl r34).trans rfl) (by go_simp) ⟨Pred.ext_refl _ _, rfl⟩
      · intro b X hE hd hn hV
        have r5 : b.tmps[5]?.getD undef = .pointer (some ⟨w.heap.size, 0, none⟩) := (hn 5 (by kernel_rfl)).trans rfl
        have r34 : b.tmps[34]?.getD undef = .bool true := hV 14 _ 34 rfl rfl (Pred.waits_near (by kernel_rfl) (by kernel_rfl))
        have q := (blk_below hE _ lA).trans bA
        exact Pred.yields_run (v := .agg #[.int .u8 (a1_0), .int .u8 (a1_1), .int .u8 (a1_2), .int .u8 (a1_3)]) ((Pred.wanted_at (g := 14) (d := 34) (f := true) rfl rfl r34).trans rfl) (by go_simp) ⟨Pred.ext_refl _ _, rfl⟩
      · intro b X hE hd hn hV
        have r6 : b.tmps[6]?.getD undef = .pointer (some ⟨w.heap.size + 1, 0, none⟩) := (hn 6 (by kernel_rfl)).trans rfl
        have r34 : b.tmps[34]?.getD undef = .bool true := hV 14 _ 34 rfl rfl (Pred.waits_near (by kernel_rfl) (by kernel_rfl))
        have q := (blk_below hE _ lC).trans bC
        exact Pred.yields_run (v := .agg #[.int .u8 (a2_0), .int .u8 (a2_1), .int .u8 (a2_2), .int .u8 (a2_3)]) ((Pred.wanted_at (g := 14) (d := 34) (f := true) rfl rfl r34).trans rfl) (by go_simp) ⟨Pred.ext_refl _ _, rfl⟩
      · intro b X hE hd hn hV
        have r3 : b.tmps[3]?.getD undef = .bool a3 := (hn 3 (by kernel_rfl)).trans rfl
        have r34 : b.tmps[34]?.getD undef = .bool true := hV 14 _ 34 rfl rfl (Pred.waits_near (by kernel_rfl) (by kernel_rfl))
        exact Pred.yields_run (v := .bool a3) ((Pred.wanted_at (g := 14) (d := 34) (f := true) rfl rfl r34).trans rfl) (by go_simp) ⟨Pred.ext_refl _ _, rfl⟩
      · intro b X hE hd hn hV
        have r41 : b.tmps[41]?.getD undef = .agg #[.int .u8 (a2_0), .int .u8 (a2_1), .int .u8 (a2_2), .int .u8 (a2_3)] := hV 21 _ 41 rfl rfl (Pred.waits_near (by kernel_rfl) (by kernel_rfl))
        have r42 : b.tmps[42]?.getD undef = .bool a3 := hV 22 _ 42 rfl rfl (Pred.waits_near (by kernel_rfl) (by kernel_rfl))
        have r34 : b.tmps[34]?.getD undef = .bool true := hV 14 _ 34 rfl rfl (Pred.waits_near (by kernel_rfl) (by kernel_rfl))
        exact Pred.yields_run (v := .agg (gotV (a2_0) (a2_1) (a2_2) (a2_3) a3)) ((Pred.wanted_at (g := 14) (d := 34) (f := true) rfl rfl r34).trans rfl) (by first | (go_simp; done) | (go_simp; rfl)) ⟨Pred.ext_refl _ _, rfl⟩
      · intro b X hE hd hn hV
        have r39 : b.tmps[39]?.getD undef = .int .i64 a0 := hV 19 _ 39 rfl rfl (Pred.waits_near (by kernel_rfl) (by kernel_rfl))
        have r40 : b.tmps[40]?.getD undef = .agg #[.int .u8 (a1_0), .int .u8 (a1_1), .int .u8 (a1_2), .int .u8 (a1_3)] := hV 20 _ 40 rfl rfl (Pred.waits_near (by kernel_rfl) (by kernel_rfl))
        have r43 : b.tmps[43]?.getD undef = .agg (gotV (a2_0) (a2_1) (a2_2) (a2_3) a3) := hV 23 _ 43 rfl rfl (Pred.waits_near (by kernel_rfl) (by kernel_rfl))
        have r34 : b.tmps[34]?.getD undef = .bool true := hV 14 _ 34 rfl rfl (Pred.waits_near (by kernel_rfl) (by kernel_rfl))
        have tb := TW.below hE lW
        refine Pred.yields_call (f := 9) (args := #[.int .i64 a0, .agg #[.int .u8 (a1_0), .int .u8 (a1_1), .int .u8 (a1_2), .int .u8 (a1_3)], .agg (gotV (a2_0) (a2_1) (a2_2) (a2_3) a3)]) ((Pred.wanted_at (g := 14) (d := 34) (f := true) rfl rfl r34).trans rfl) (by go_simp) ?_
        exact (rpixel_any a0 a1_0 a1_1 a1_2 a1_3 a2_0 a2_1 a2_2 a2_3 a3 _ pa0 pa1 pa2 pa3 pc0 pc1 pc2 pc3).mono fun e w2 ⟨he, hb⟩ => ⟨_, he, Pred.ext_below hb hE.size, rfl⟩
      · intro b X hE hd hn hV
        have r38 : b.tmps[38]?.getD undef = .agg #[.int .u8 (pixK a0 a1_0 a2_0 a3), .int .u8 (pixK a0 a1_1 a2_1 a3), .int .u8 (pixK a0 a1_2 a2_2 a3), .int .u8 (pixK a0 a1_3 a2_3 a3)] := hV 18 _ 38 rfl rfl (Pred.waits_near (by kernel_rfl) (by kernel_rfl))
        have r44 : b.tmps[44]?.getD undef = .agg #[.int .u8 (pixK a0 a1_0 a2_0 a3), .int .u8 (pixK a0 a1_1 a2_1 a3), .int .u8 (pixK a0 a1_2 a2_2 a3), .int .u8 (pixK a0 a1_3 a2_3 a3)] := hV 24 _ 44 rfl rfl (Pred.waits_near (by kernel_rfl) (by kernel_rfl))
        have r34 : b.tmps[34]?.getD undef = .bool true := hV 14 _ 34 rfl rfl (Pred.waits_near (by kernel_rfl) (by kernel_rfl))
        exact Pred.yields_run (v := .bool true) ((Pred.wanted_at (g := 14) (d := 34) (f := true) rfl rfl r34).trans rfl) (by go_simp) ⟨Pred.ext_refl _ _, rfl⟩
      · intro b X hE hd hn hV
        have r34 : b.tmps[34]?.getD undef = .bool true := hV 14 _ 34 rfl rfl (Pred.waits_near (by kernel_rfl) (by kernel_rfl))
        have r45 : b.tmps[45]?.getD undef = .bool true := hV 25 _ 45 rfl rfl (Pred.waits_near (by kernel_rfl) (by kernel_rfl))
        exact Pred.yields_run (v := .bool true) (Pred.wanted_none rfl) (by go_simp) ⟨Pred.ext_refl _ _, rfl⟩
      · intro b X hE hd hn hV
        have r46 : b.tmps[46]?.getD undef = .bool true := hV 26 _ 46 rfl rfl (Pred.waits_near (by kernel_rfl) (by kernel_rfl))
        exact Pred.yields_run (v := .bool true) (Pred.wanted_none rfl) (by go_simp) ⟨Pred.ext_refl _ _, rfl⟩
      · intro b X hE hd hn hV
        have r47 : b.tmps[47]?.getD undef = .bool true := hV 27 _ 47 rfl rfl (Pred.waits_near (by kernel_rfl) (by kernel_rfl))
        have tb := TW.below hE lW
        refine Pred.yields_call (f := 10) (args := #[]) ((Pred.wanted_at (g := 27) (d := 47) (f := true) rfl rfl r47).trans rfl) (by go_simp) ?_
        exact (awake_any _ tb).mono fun e w2 ⟨he, hb⟩ => ⟨_, he, Pred.ext_below hb hE.size, rfl⟩
      · intro b X hE hd hn hV
        have r47 : b.tmps[47]?.getD undef = .bool true := hV 27 _ 47 rfl rfl (Pred.waits_near (by kernel_rfl) (by kernel_rfl))
        have r48 : b.tmps[48]?.getD undef = .bool true := hV 28 _ 48 rfl rfl (Pred.waits_near (by kernel_rfl) (by kernel_rfl))
        exact Pred.yields_run (v := .bool true) (Pred.wanted_none rfl) (by go_simp) ⟨Pred.ext_refl _ _, rfl⟩
      · intro b X hE hd hn hV
        have r49 : b.tmps[49]?.getD undef = .bool true := hV 29 _ 49 rfl rfl (Pred.waits_near (by kernel_rfl) (by kernel_rfl))
        exact Pred.yields_run (v := .bool true) (Pred.wanted_none rfl) (by go_simp) ⟨Pred.ext_refl _ _, rfl⟩
    intro v X hE hv
    have e0 : v 0 = .int .i64 a0 := hv 0 _ 20 rfl rfl
    have e1 : v 1 = .bool false := hv 1 _ 21 rfl rfl
    have e2 : v 2 = .bool false := hv 2 _ 22 rfl rfl
    have e3 : v 3 = .bool true := hv 3 _ 23 rfl rfl
    have e4 : v 4 = .bool true := hv 4 _ 24 rfl rfl
    have e5 : v 5 = .int .i64 a0 := hv 5 _ 25 rfl rfl
    have e6 : v 6 = .bool false := hv 6 _ 26 rfl rfl
    have e7 : v 7 = .bool false := hv 7 _ 27 rfl rfl
    have e8 : v 8 = .bool false := hv 8 _ 28 rfl rfl
    have e9 : v 9 = undef := hv 9 _ 29 rfl rfl
    have e10 : v 10 = undef := hv 10 _ 30 rfl rfl
    have e11 : v 11 = .bool false := hv 11 _ 31 rfl rfl
    have e12 : v 12 = .bool true := hv 12 _ 32 rfl rfl
    have e13 : v 13 = .bool true := hv 13 _ 33 rfl rfl
    have e14 : v 14 = .bool true := hv 14 _ 34 rfl rfl
    have e15 : v 15 = .int .i64 a0 := hv 15 _ 35 rfl rfl
    have e16 : v 16 = .agg #[.int .u8 (a1_0), .int .u8 (a1_1), .int .u8 (a1_2), .int .u8 (a1_3)] := hv 16 _ 36 rfl rfl
    have e17 : v 17 = .agg (gotV (a2_0) (a2_1) (a2_2) (a2_3) a3) := hv 17 _ 37 rfl rfl
    have e18 : v 18 = .agg #[.int .u8 (pixK a0 a1_0 a2_0 a3), .int .u8 (pixK a0 a1_1 a2_1 a3), .int .u8 (pixK a0 a1_2 a2_2 a3), .int .u8 (pixK a0 a1_3 a2_3 a3)] := hv 18 _ 38 rfl rfl
    have e19 : v 19 = .int .i64 a0 := hv 19 _ 39 rfl rfl
    have e20 : v 20 = .agg #[.int .u8 (a1_0), .int .u8 (a1_1), .int .u8 (a1_2), .int .u8 (a1_3)] := hv 20 _ 40 rfl rfl
    have e21 : v 21 = .agg #[.int .u8 (a2_0), .int .u8 (a2_1), .int .u8 (a2_2), .int .u8 (a2_3)] := hv 21 _ 41 rfl rfl
    have e22 : v 22 = .bool a3 := hv 22 _ 42 rfl rfl
    have e23 : v 23 = .agg (gotV (a2_0) (a2_1) (a2_2) (a2_3) a3) := hv 23 _ 43 rfl rfl
    have e24 : v 24 = .agg #[.int .u8 (pixK a0 a1_0 a2_0 a3), .int .u8 (pixK a0 a1_1 a2_1 a3), .int .u8 (pixK a0 a1_2 a2_2 a3), .int .u8 (pixK a0 a1_3 a2_3 a3)] := hv 24 _ 44 rfl rfl
    have e25 : v 25 = .bool true := hv 25 _ 45 rfl rfl
    have e26 : v 26 = .bool true := hv 26 _ 46 rfl rfl
    have e27 : v 27 = .bool true := hv 27 _ 47 rfl rfl
    have e28 : v 28 = .bool true := hv 28 _ 48 rfl rfl
    have e29 : v 29 = .bool true := hv 29 _ 49 rfl rfl
    have e30 : v 30 = .bool true := hv 30 _ 8 rfl rfl
    simp only [Pred.putsF_cons, Pred.putsF_nil, Nat.zero_add, Nat.reduceAdd, e0, e1, e2, e3, e4, e5, e6, e7, e8, e9, e10, e11, e12, e13, e14, e15, e16, e17, e18, e19, e20, e21, e22, e23, e24, e25, e26, e27, e28, e29, e30, Act.put, List.setIfInBounds_toArray, List.set_cons_zero, List.set_cons_succ]
    clear e0 e1 e2 e3 e4 e5 e6 e7 e8 e9 e10 e11 e12 e13 e14 e15 e16 e17 e18 e19 e20 e21 e22 e23 e24 e25 e26 e27 e28 e29 e30 hv
    have sX := hE.size
    have L2 : Below w.heap.size w X := L1.trans (hE.mono L1.size)
    go_wp2
    go_ret
    exact ⟨rfl, L2⟩
end Go.Proofs.YtbogcaiobdhmjaaDoor.ShC
