/-
  The laws of package shade.
-/
import Derived.Test.YtbogcaiobdhmjaaDoorShA
import Derived.Test.YtbogcaiobdhmjaaDoorPred
import Derived.Test.YtbogcaiobdhmjaaDoorEq
namespace Go.Proofs.YtbogcaiobdhmjaaDoor.ShB
open Go.RowKit Rd HueA Go.Proofs.YtbogcaiobdhmjaaDoor.Row ShA
open Go.Proofs.YtbogcaiobdhmjaaDoor.Pred (Is is_stab Stab)
set_option linter.unusedVariables false
set_option linter.unusedSimpArgs false
set_option maxRecDepth 100000
theorem load_col (x : Value) : Instr.loadAt 23 x = loadRow 23 x := rfl
theorem load_got (x : Value) : Instr.loadAt 26 x = loadRow 26 x := rfl
theorem run_load_col (g o : Nat) (W : World) : (loadRow 23 (.pointer (some ⟨g, o, none⟩))).run Tryd.prog W = rowLoad Tryd.prog 23 4 g o W := run_loadRow Tryd.underlying23 rfl (by kernel_rfl) g o W
theorem run_load_got (g o : Nat) (W : World) : (loadRow 26 (.pointer (some ⟨g, o, none⟩))).run Tryd.prog W = rowLoad Tryd.prog 26 7 g o W := run_loadRow Tryd.underlying26 rfl (by kernel_rfl) g o W
attribute [local go_sem ↓] load_col load_got
attribute [local go_sem] run_load_col run_load_got rowLoad_eq blk_alloc_at blk_alloc_old blk_drew blk_drewN Eq.eq_col
theorem got_size (a b c d : Int) (f : Bool) : (gotV a b c d f).size = 7 := rfl
attribute [local go_sem] got_size

theorem mayB_any (n : Int) (w : World) : Calls Tryd.prog 6 #[.int .i64 n] w fun e w' => e = .returned (.bool (mayS n)) ∧ Below w.heap.size w w' := (may_any n w).mono fun e w' ⟨h, e2⟩ => ⟨h, e2 ▸ Below.refl _ _⟩
theorem asksB_any (n : Int) (w : World) (hT : TB w) : Calls Tryd.prog 7 #[.int .i64 n] w fun e w' => e = .returned (.bool (asksS n)) ∧ Below w.heap.size w w' := (asks_any n w hT).mono fun e w' ⟨h, e2⟩ => ⟨h, e2 ▸ Below.refl _ _⟩
theorem mayQ (n : Int) (b : Bool) (h : mayS n = b) (w : World) : Calls Tryd.prog 6 #[.int .i64 n] w fun e w' => e = .returned (.bool b) ∧ Below w.heap.size w w' := by rw [← h]; exact mayB_any n w
theorem asksQ (n : Int) (b : Bool) (h : asksS n = b) (w : World) (hT : TB w) : Calls Tryd.prog 7 #[.int .i64 n] w fun e w' => e = .returned (.bool b) ∧ Below w.heap.size w w' := by rw [← h]; exact asksB_any n w hT
set_option maxHeartbeats 4000000 in
theorem awake_any (w : World) (hT : TB w) :
    Calls Tryd.prog 10 #[] w fun e w' => e = .returned (.bool true) ∧ Below w.heap.size w w' := by
  have h0 := hT.1
  go_enter Tryd.func10, Tryd.ntmps10
  go_upto_region 2 with (fail)
  refine Rd.name_world ?_
  intro W hW
  have bC : blk W w.heap.size = some (.cells #[.int .u8 (1), .int .u8 (2), .int .u8 (3), .int .u8 (4)] 23 (0, 0)) := by rw [hW]; exact blk_alloc_at _ _ _ rfl
  have L1 : Below w.heap.size w W := by rw [hW]; repeat' (first | (with_reducible exact Below.refl _ _) | (with_reducible refine Rd.below_step ?_ (by assumption)) | (with_reducible refine Rd.below_alloc ?_ _) | (with_reducible refine Rd.below_drewN ?_ _) | (with_reducible refine Below.drew ?_) | (with_reducible refine Below.setCell ?_ ?_ _) | (with_reducible refine Rd.below_setRow ?_ ?_ _) | go_size | (simp only [World.size_alloc]; omega) | omega)
  have TW := hT.below L1 h0
  have lC := blk_lt bC
  have lW : 0 < W.heap.size := TW.1
  clear hW
  refine Pred.region_vals (Pred.Of [
      Is (.bool true),
      Is (.bool true),
      Is (.bool false),
      Is (.bool true),
      Is (.bool true),
      Is (.bool true),
      Is (.bool false),
      Is (.bool true),
      Is (.bool true),
      Is (.bool true),
      Is (.bool true),
      Is (.bool true),
      Is (.bool true),
      Is (.bool false),
      Is (.bool true),
      Is (.bool true),
      Is (.bool true),
      Is (.agg #[.int .u8 (1), .int .u8 (2), .int .u8 (3), .int .u8 (4)]),
      Is (.agg (gotV (0) (0) (0) (0) false)),
      Is (.agg #[.int .u8 (1), .int .u8 (2), .int .u8 (3), .int .u8 (4)]),
      Is (.agg #[.int .u8 (1), .int .u8 (2), .int .u8 (3), .int .u8 (4)]),
      Is (.bool true),
      Is (.bool true),
      Is (.bool true),
      Is (.agg #[.int .u8 (1), .int .u8 (2), .int .u8 (3), .int .u8 (4)]),
      Is (.agg (gotV (0) (0) (0) (0) true)),
      Is (.agg #[.int .u8 (255), .int .u8 (255), .int .u8 (255), .int .u8 (255)]),
      Is (.agg #[.int .u8 (255), .int .u8 (255), .int .u8 (255), .int .u8 (255)]),
      Is (.bool true),
      Is (.bool true),
      Is (.bool true),
      Is (.agg #[.int .u8 (1), .int .u8 (2), .int .u8 (3), .int .u8 (4)]),
      Is (.agg (gotV (0) (0) (0) (0) false)),
      Is (.agg #[.int .u8 (1), .int .u8 (2), .int .u8 (3), .int .u8 (4)]),
      Is (.agg #[.int .u8 (1), .int .u8 (2), .int .u8 (3), .int .u8 (4)]),
      Is (.bool true),
      Is (.bool true),
      Is (.bool true)]) (by kernel_rfl) (by kernel_rfl) (by kernel_rfl) (Pred.of_stab ?_) ?_ ?_
  · exact ⟨is_stab _, is_stab _, is_stab _, is_stab _, is_stab _, is_stab _, is_stab _, is_stab _, is_stab _, is_stab _, is_stab _, is_stab _, is_stab _, is_stab _, is_stab _, is_stab _, is_stab _, is_stab _, is_stab _, is_stab _, is_stab _, is_stab _, is_stab _, is_stab _, is_stab _, is_stab _, is_stab _, is_stab _, is_stab _, is_stab _, is_stab _, is_stab _, is_stab _, is_stab _, is_stab _, is_stab _, is_stab _, is_stab _, trivial⟩
  · refine ⟨?_, ?_, ?_, ?_, ?_, ?_, ?_, ?_, ?_, ?_, ?_, ?_, ?_, ?_, ?_, ?_, ?_, ?_, ?_, ?_, ?_, ?_, ?_, ?_, ?_, ?_, ?_, ?_, ?_, ?_, ?_, ?_, ?_, ?_, ?_, ?_, ?_, ?_, trivial⟩
    · intro b X hE hd hn hV
      have tb := TW.below hE lW
      refine Pred.yields_call (f := 6) (args := #[.int .i64 1]) (Pred.wanted_none rfl) (by go_simp) ?_
      exact (mayQ 1 true (by decide) _).mono fun e w2 ⟨he, hb⟩ => ⟨_, he, Pred.ext_below hb hE.size, rfl⟩
    · intro b X hE hd hn hV
      have r3 : b.tmps[3]?.getD undef = .bool true := hV 0 _ 3 rfl rfl (Pred.waits_near (by kernel_rfl) (by kernel_rfl))
      exact Pred.yields_run (v := .bool true) (Pred.wanted_none rfl) (by go_simp) ⟨Pred.ext_refl _ _, rfl⟩
    · intro b X hE hd hn hV
      have r4 : b.tmps[4]?.getD undef = .bool true := hV 1 _ 4 rfl rfl (Pred.waits_near (by kernel_rfl) (by kernel_rfl))
      have tb := TW.below hE lW
      refine Pred.yields_call (f := 6) (args := #[.int .i64 0]) ((Pred.wanted_at (g := 1) (d := 4) (f := true) rfl rfl r4).trans rfl) (by go_simp) ?_
      exact (mayQ 0 false (by decide) _).mono fun e w2 ⟨he, hb⟩ => ⟨_, he, Pred.ext_below hb hE.size, rfl⟩
    · intro b X hE hd hn hV
      have r5 : b.tmps[5]?.getD undef = .bool false := hV 2 _ 5 rfl rfl (Pred.waits_near (by kernel_rfl) (by kernel_rfl))
      have r4 : b.tmps[4]?.getD undef = .bool true := hV 1 _ 4 rfl rfl (Pred.waits_near (by kernel_rfl) (by kernel_rfl))
      exact Pred.yields_run (v := .bool true) ((Pred.wanted_at (g := 1) (d := 4) (f := true) rfl rfl r4).trans rfl) (by go_simp) ⟨Pred.ext_refl _ _, rfl⟩
    · intro b X hE hd hn hV
      have r4 : b.tmps[4]?.getD undef = .bool true := hV 1 _ 4 rfl rfl (Pred.waits_near (by kernel_rfl) (by kernel_rfl))
      have r6 : b.tmps[6]?.getD undef = .bool true := hV 3 _ 6 rfl rfl (Pred.waits_near (by kernel_rfl) (by kernel_rfl))
      exact Pred.yields_run (v := .bool true) (Pred.wanted_none rfl) (by go_simp) ⟨Pred.ext_refl _ _, rfl⟩
    · intro b X hE hd hn hV
      have r7 : b.tmps[7]?.getD undef = .bool true := hV 4 _ 7 rfl rfl (Pred.waits_near (by kernel_rfl) (by kernel_rfl))
      exact Pred.yields_run (v := .bool true) (Pred.wanted_none rfl) (by go_simp) ⟨Pred.ext_refl _ _, rfl⟩
    · intro b X hE hd hn hV
      have r8 : b.tmps[8]?.getD undef = .bool true := hV 5 _ 8 rfl rfl (Pred.waits_near (by kernel_rfl) (by kernel_rfl))
      have tb := TW.below hE lW
      refine Pred.yields_call (f := 6) (args := #[.int .i64 5]) ((Pred.wanted_at (g := 5) (d := 8) (f := true) rfl rfl r8).trans rfl) (by go_simp) ?_
      exact (mayQ 5 false (by decide) _).mono fun e w2 ⟨he, hb⟩ => ⟨_, he, Pred.ext_below hb hE.size, rfl⟩
    · intro b X hE hd hn hV
      have r9 : b.tmps[9]?.getD undef = .bool false := hV 6 _ 9 rfl rfl (Pred.waits_near (by kernel_rfl) (by kernel_rfl))
      have r8 : b.tmps[8]?.getD undef = .bool true := hV 5 _ 8 rfl rfl (Pred.waits_near (by kernel_rfl) (by kernel_rfl))
      exact Pred.yields_run (v := .bool true) ((Pred.wanted_at (g := 5) (d := 8) (f := true) rfl rfl r8).trans rfl) (by go_simp) ⟨Pred.ext_refl _ _, rfl⟩
    · intro b X hE hd hn hV
      have r8 : b.tmps[8]?.getD undef = .bool true := hV 5 _ 8 rfl rfl (Pred.waits_near (by kernel_rfl) (by kernel_rfl))
      have r10 : b.tmps[10]?.getD undef = .bool true := hV 7 _ 10 rfl rfl (Pred.waits_near (by kernel_rfl) (by kernel_rfl))
      exact Pred.yields_run (v := .bool true) (Pred.wanted_none rfl) (by go_simp) ⟨Pred.ext_refl _ _, rfl⟩
    · intro b X hE hd hn hV
      have r11 : b.tmps[11]?.getD undef = .bool true := hV 8 _ 11 rfl rfl (Pred.waits_near (by kernel_rfl) (by kernel_rfl))
      exact Pred.yields_run (v := .bool true) (Pred.wanted_none rfl) (by go_simp) ⟨Pred.ext_refl _ _, rfl⟩
    · intro b X hE hd hn hV
      have r12 : b.tmps[12]?.getD undef = .bool true := hV 9 _ 12 rfl rfl (Pred.waits_near (by kernel_rfl) (by kernel_rfl))
      have tb := TW.below hE lW
      refine Pred.yields_call (f := 7) (args := #[.int .i64 4]) ((Pred.wanted_at (g := 9) (d := 12) (f := true) rfl rfl r12).trans rfl) (by go_simp) ?_
      exact (asksQ 4 true (by decide) _ tb).mono fun e w2 ⟨he, hb⟩ => ⟨_, he, Pred.ext_below hb hE.size, rfl⟩
    · intro b X hE hd hn hV
      have r12 : b.tmps[12]?.getD undef = .bool true := hV 9 _ 12 rfl rfl (Pred.waits_near (by kernel_rfl) (by kernel_rfl))
      have r13 : b.tmps[13]?.getD undef = .bool true := hV 10 _ 13 rfl rfl (Pred.waits_near (by kernel_rfl) (by kernel_rfl))
      exact Pred.yields_run (v := .bool true) (Pred.wanted_none rfl) (by go_simp) ⟨Pred.ext_refl _ _, rfl⟩
    · intro b X hE hd hn hV
      have r14 : b.tmps[14]?.getD undef = .bool true := hV 11 _ 14 rfl rfl (Pred.waits_near (by kernel_rfl) (by kernel_rfl))
      exact Pred.yields_run (v := .bool true) (Pred.wanted_none rfl) (by go_simp) ⟨Pred.ext_refl _ _, rfl⟩
    · intro b X hE hd hn hV
      have r15 : b.tmps[15]?.getD undef = .bool true := hV 12 _ 15 rfl rfl (Pred.waits_near (by kernel_rfl) (by kernel_rfl))
      have tb := TW.below hE lW
      refine Pred.yields_call (f := 7) (args := #[.int .i64 1]) ((Pred.wanted_at (g := 12) (d := 15) (f := true) rfl rfl r15).trans rfl) (by go_simp) ?_
      exact (asksQ 1 false (by decide) _ tb).mono fun e w2 ⟨he, hb⟩ => ⟨_, he, Pred.ext_below hb hE.size, rfl⟩
    · intro b X hE hd hn hV
      have r16 : b.tmps[16]?.getD undef = .bool false := hV 13 _ 16 rfl rfl (Pred.waits_near (by kernel_rfl) (by kernel_rfl))
      have r15 : b.tmps[15]?.getD undef = .bool true := hV 12 _ 15 rfl rfl (Pred.waits_near (by kernel_rfl) (by kernel_rfl))
      exact Pred.yields_run (v := .bool true) ((Pred.wanted_at (g := 12) (d := 15) (f := true) rfl rfl r15).trans rfl) (by go_simp) ⟨Pred.ext_refl _ _, rfl⟩
    · intro b X hE hd hn hV
      have r15 : b.tmps[15]?.getD undef = .bool true := hV 12 _ 15 rfl rfl (Pred.waits_near (by kernel_rfl) (by kernel_rfl))
      have r17 : b.tmps[17]?.getD undef = .bool true := hV 14 _ 17 rfl rfl (Pred.waits_near (by kernel_rfl) (by kernel_rfl))
      exact Pred.yields_run (v := .bool true) (Pred.wanted_none rfl) (by go_simp) ⟨Pred.ext_refl _ _, rfl⟩
    · intro b X hE hd hn hV
      have r18 : b.tmps[18]?.getD undef = .bool true := hV 15 _ 18 rfl rfl (Pred.waits_near (by kernel_rfl) (by kernel_rfl))
      exact Pred.yields_run (v := .bool true) (Pred.wanted_none rfl) (by go_simp) ⟨Pred.ext_refl _ _, rfl⟩
    · intro b X hE hd hn hV
      have r1 : b.tmps[1]?.getD undef = .pointer (some ⟨w.heap.size, 0, none⟩) := (hn 1 (by kernel_rfl)).trans rfl
      have r19 : b.tmps[19]?.getD undef = .bool true := hV 16 _ 19 rfl rfl (Pred.waits_near (by kernel_rfl) (by kernel_rfl))
      have q := (blk_below hE _ lC).trans bC
      exact Pred.yields_run (v := .agg #[.int .u8 (1), .int .u8 (2), .int .u8 (3), .int .u8 (4)]) ((Pred.wanted_at (g := 16) (d := 19) (f := true) rfl rfl r19).trans rfl) (by go_simp) ⟨Pred.ext_refl _ _, rfl⟩
    · intro b X hE hd hn hV
      have r19 : b.tmps[19]?.getD undef = .bool true := hV 16 _ 19 rfl rfl (Pred.waits_near (by kernel_rfl) (by kernel_rfl))
      exact Pred.yields_run (v := .agg (gotV (0) (0) (0) (0) false)) ((Pred.wanted_at (g := 16) (d := 19) (f := true) rfl rfl r19).trans rfl) (by first | (go_simp; done) | (go_simp; rfl)) ⟨Pred.ext_refl _ _, rfl⟩
    · intro b X hE hd hn hV
      have r20 : b.tmps[20]?.getD undef = .agg #[.int .u8 (1), .int .u8 (2), .int .u8 (3), .int .u8 (4)] := hV 17 _ 20 rfl rfl (Pred.waits_near (by kernel_rfl) (by kernel_rfl))
      have r21 : b.tmps[21]?.getD undef = .agg (gotV (0) (0) (0) (0) false) := hV 18 _ 21 rfl rfl (Pred.waits_near (by kernel_rfl) (by kernel_rfl))
      have r19 : b.tmps[19]?.getD undef = .bool true := hV 16 _ 19 rfl rfl (Pred.waits_near (by kernel_rfl) (by kernel_rfl))
      have tb := TW.below hE lW
      refine Pred.yields_call (f := 8) (args := #[.int .i64 1, .agg #[.int .u8 (1), .int .u8 (2), .int .u8 (3), .int .u8 (4)], .agg (gotV (0) (0) (0) (0) false)]) ((Pred.wanted_at (g := 16) (d := 19) (f := true) rfl rfl r19).trans rfl) (by go_simp) ?_
      exact (pixel_1 1 2 3 4 0 0 0 0 false _ (by decide) (by decide) (by decide) (by decide) (by decide) (by decide) (by decide) (by decide) tb).mono fun e w2 ⟨he, hb⟩ => ⟨_, he, Pred.ext_below hb hE.size, rfl⟩
    · intro b X hE hd hn hV
      have r1 : b.tmps[1]?.getD undef = .pointer (some ⟨w.heap.size, 0, none⟩) := (hn 1 (by kernel_rfl)).trans rfl
      have r19 : b.tmps[19]?.getD undef = .bool true := hV 16 _ 19 rfl rfl (Pred.waits_near (by kernel_rfl) (by kernel_rfl))
      have q := (blk_below hE _ lC).trans bC
      exact Pred.yields_run (v := .agg #[.int .u8 (1), .int .u8 (2), .int .u8 (3), .int .u8 (4)]) ((Pred.wanted_at (g := 16) (d := 19) (f := true) rfl rfl r19).trans rfl) (by go_simp) ⟨Pred.ext_refl _ _, rfl⟩
    · intro b X hE hd hn hV
      have r22 : b.tmps[22]?.getD undef = .agg #[.int .u8 (1), .int .u8 (2), .int .u8 (3), .int .u8 (4)] := hV 19 _ 22 rfl rfl (Pred.waits_near (by kernel_rfl) (by kernel_rfl))
      have r23 : b.tmps[23]?.getD undef = .agg #[.int .u8 (1), .int .u8 (2), .int .u8 (3), .int .u8 (4)] := hV 20 _ 23 rfl rfl (Pred.waits_near (by kernel_rfl) (by kernel_rfl))
      have r19 : b.tmps[19]?.getD undef = .bool true := hV 16 _ 19 rfl rfl (Pred.waits_near (by kernel_rfl) (by kernel_rfl))
      exact Pred.yields_run (v := .bool true) ((Pred.wanted_at (g := 16) (d := 19) (f := true) rfl rfl r19).trans rfl) (by go_simp) ⟨Pred.ext_refl _ _, rfl⟩
    · intro b X hE hd hn hV
      have r19 : b.tmps[19]?.getD undef = .bool true := hV 16 _ 19 rfl rfl (Pred.waits_near (by kernel_rfl) (by kernel_rfl))
      have r24 : b.tmps[24]?.getD undef = .bool true := hV 21 _ 24 rfl rfl (Pred.waits_near (by kernel_rfl) (by kernel_rfl))
      exact Pred.yields_run (v := .bool true) (Pred.wanted_none rfl) (by go_simp) ⟨Pred.ext_refl _ _, rfl⟩
    · intro b X hE hd hn hV
      have r25 : b.tmps[25]?.getD undef = .bool true := hV 22 _ 25 rfl rfl (Pred.waits_near (by kernel_rfl) (by kernel_rfl))
      exact Pred.yields_run (v := .bool true) (Pred.wanted_none rfl) (by go_simp) ⟨Pred.ext_refl _ _, rfl⟩
    · intro b X hE hd hn hV
      have r1 : b.tmps[1]?.getD undef = .pointer (some ⟨w.heap.size, 0, none⟩) := (hn 1 (by kernel_rfl)).trans rfl
      have r26 : b.tmps[26]?.getD undef = .bool true := hV 23 _ 26 rfl rfl (Pred.waits_near (by kernel_rfl) (by kernel_rfl))
      have q := (blk_below hE _ lC).trans bC
      exact Pred.yields_run (v := .agg #[.int .u8 (1), .int .u8 (2), .int .u8 (3), .int .u8 (4)]) ((Pred.wanted_at (g := 23) (d := 26) (f := true) rfl rfl r26).trans rfl) (by go_simp) ⟨Pred.ext_refl _ _, rfl⟩
    · intro b X hE hd hn hV
      have r26 : b.tmps[26]?.getD undef = .bool true := hV 23 _ 26 rfl rfl (Pred.waits_near (by kernel_rfl) (by kernel_rfl))
      exact Pred.yields_run (v := .agg (gotV (0) (0) (0) (0) true)) ((Pred.wanted_at (g := 23) (d := 26) (f := true) rfl rfl r26).trans rfl) (by first | (go_simp; done) | (go_simp; rfl)) ⟨Pred.ext_refl _ _, rfl⟩
    · intro b X hE hd hn hV
      have r27 : b.tmps[27]?.getD undef = .agg #[.int .u8 (1), .int .u8 (2), .int .u8 (3), .int .u8 (4)] := hV 24 _ 27 rfl rfl (Pred.waits_near (by kernel_rfl) (by kernel_rfl))
      have r28 : b.tmps[28]?.getD undef = .agg (gotV (0) (0) (0) (0) true) := hV 25 _ 28 rfl rfl (Pred.waits_near (by kernel_rfl) (by kernel_rfl))
      have r26 : b.tmps[26]?.getD undef = .bool true := hV 23 _ 26 rfl rfl (Pred.waits_near (by kernel_rfl) (by kernel_rfl))
      have tb := TW.below hE lW
      refine Pred.yields_call (f := 8) (args := #[.int .i64 4, .agg #[.int .u8 (1), .int .u8 (2), .int .u8 (3), .int .u8 (4)], .agg (gotV (0) (0) (0) (0) true)]) ((Pred.wanted_at (g := 23) (d := 26) (f := true) rfl rfl r26).trans rfl) (by go_simp) ?_
      exact (pixel_4t 1 2 3 4 0 0 0 0 _ (by decide) (by decide) (by decide) (by decide) (by decide) (by decide) (by decide) (by decide) tb).mono fun e w2 ⟨he, hb⟩ => ⟨_, he, Pred.ext_below hb hE.size, rfl⟩
    · intro b X hE hd hn hV
      have r26 : b.tmps[26]?.getD undef = .bool true := hV 23 _ 26 rfl rfl (Pred.waits_near (by kernel_rfl) (by kernel_rfl))
      exact Pred.yields_run (v := .agg #[.int .u8 (255), .int .u8 (255), .int .u8 (255), .int .u8 (255)]) ((Pred.wanted_at (g := 23) (d := 26) (f := true) rfl rfl r26).trans rfl) (by go_simp) ⟨Pred.ext_refl _ _, rfl⟩
    · intro b X hE hd hn hV
      have r29 : b.tmps[29]?.getD undef = .agg #[.int .u8 (255), .int .u8 (255), .int .u8 (255), .int .u8 (255)] := hV 26 _ 29 rfl rfl (Pred.waits_near (by kernel_rfl) (by kernel_rfl))
      have r30 : b.tmps[30]?.getD undef = .agg #[.int .u8 (255), .int .u8 (255), .int .u8 (255), .int .u8 (255)] := hV 27 _ 30 rfl rfl (Pred.waits_near (by kernel_rfl) (by kernel_rfl))
      have r26 : b.tmps[26]?.getD undef = .bool true := hV 23 _ 26 rfl rfl (Pred.waits_near (by kernel_rfl) (by kernel_rfl))
      exact Pred.yields_run (v := .bool true) ((Pred.wanted_at (g := 23) (d := 26) (f := true) rfl rfl r26).trans rfl) (by go_simp) ⟨Pred.ext_refl _ _, rfl⟩
    · intro b X hE hd hn hV
      have r26 : b.tmps[26]?.getD undef = .bool true := hV 23 _ 26 rfl rfl (Pred.waits_near (by kernel_rfl) (by kernel_rfl))
      have r31 : b.tmps[31]?.getD undef = .bool true := hV 28 _ 31 rfl rfl (Pred.waits_near (by kernel_rfl) (by kernel_rfl))
      exact Pred.yields_run (v := .bool true) (Pred.wanted_none rfl) (by go_simp) ⟨Pred.ext_refl _ _, rfl⟩
    · intro b X hE hd hn hV
      have r32 : b.tmps[32]?.getD undef = .bool true := hV 29 _ 32 rfl rfl (Pred.waits_near (by kernel_rfl) (by kernel_rfl))
      exact Pred.yields_run (v := .bool true) (Pred.wanted_none rfl) (by go_simp) ⟨Pred.ext_refl _ _, rfl⟩
    · intro b X hE hd hn hV
      have r1 : b.tmps[1]?.getD undef = .pointer (some ⟨w.heap.size, 0, none⟩) := (hn 1 (by kernel_rfl)).trans rfl
      have r33 : b.tmps[33]?.getD undef = .bool true := hV 30 _ 33 rfl rfl (Pred.waits_near (by kernel_rfl) (by kernel_rfl))
      have q := (blk_below hE _ lC).trans bC
      exact Pred.yields_run (v := .agg #[.int .u8 (1), .int .u8 (2), .int .u8 (3), .int .u8 (4)]) ((Pred.wanted_at (g := 30) (d := 33) (f := true) rfl rfl r33).trans rfl) (by go_simp) ⟨Pred.ext_refl _ _, rfl⟩
    · intro b X hE hd hn hV
      have r33 : b.tmps[33]?.getD undef = .bool true := hV 30 _ 33 rfl rfl (Pred.waits_near (by kernel_rfl) (by kernel_rfl))
      exact Pred.yields_run (v := .agg (gotV (0) (0) (0) (0) false)) ((Pred.wanted_at (g := 30) (d := 33) (f := true) rfl rfl r33).trans rfl) (by first | (go_simp; done) | (go_simp; rfl)) ⟨Pred.ext_refl _ _, rfl⟩
    · intro b X hE hd hn hV
      have r34 : b.tmps[34]?.getD undef = .agg #[.int .u8 (1), .int .u8 (2), .int .u8 (3), .int .u8 (4)] := hV 31 _ 34 rfl rfl (Pred.waits_near (by kernel_rfl) (by kernel_rfl))
      have r35 : b.tmps[35]?.getD undef = .agg (gotV (0) (0) (0) (0) false) := hV 32 _ 35 rfl rfl (Pred.waits_near (by kernel_rfl) (by kernel_rfl))
      have r33 : b.tmps[33]?.getD undef = .bool true := hV 30 _ 33 rfl rfl (Pred.waits_near (by kernel_rfl) (by kernel_rfl))
      have tb := TW.below hE lW
      refine Pred.yields_call (f := 8) (args := #[.int .i64 4, .agg #[.int .u8 (1), .int .u8 (2), .int .u8 (3), .int .u8 (4)], .agg (gotV (0) (0) (0) (0) false)]) ((Pred.wanted_at (g := 30) (d := 33) (f := true) rfl rfl r33).trans rfl) (by go_simp) ?_
      exact (pixel_4f 1 2 3 4 0 0 0 0 _ (by decide) (by decide) (by decide) (by decide) (by decide) (by decide) (by decide) (by decide) tb).mono fun e w2 ⟨he, hb⟩ => ⟨_, he, Pred.ext_below hb hE.size, rfl⟩
    · intro b X hE hd hn hV
      have r1 : b.tmps[1]?.getD undef = .pointer (some ⟨w.heap.size, 0, none⟩) := (hn 1 (by kernel_rfl)).trans rfl
      have r33 : b.tmps[33]?.getD undef = .bool true := hV 30 _ 33 rfl rfl (Pred.waits_near (by kernel_rfl) (by kernel_rfl))
      have q := (blk_below hE _ lC).trans bC
      exact Pred.yields_run (v := .agg #[.int .u8 (1), .int .u8 (2), .int .u8 (3), .int .u8 (4)]) ((Pred.wanted_at (g := 30) (d := 33) (f := true) rfl rfl r33).trans rfl) (by go_simp) ⟨Pred.ext_refl _ _, rfl⟩
    · intro b X hE hd hn hV
      have r36 : b.tmps[36]?.getD undef = .agg #[.int .u8 (1), .int .u8 (2), .int .u8 (3), .int .u8 (4)] := hV 33 _ 36 rfl rfl (Pred.waits_near (by kernel_rfl) (by kernel_rfl))
      have r37 : b.tmps[37]?.getD undef = .agg #[.int .u8 (1), .int .u8 (2), .int .u8 (3), .int .u8 (4)] := hV 34 _ 37 rfl rfl (Pred.waits_near (by kernel_rfl) (by kernel_rfl))
      have r33 : b.tmps[33]?.getD undef = .bool true := hV 30 _ 33 rfl rfl (Pred.waits_near (by kernel_rfl) (by kernel_rfl))
      exact Pred.yields_run (v := .bool true) ((Pred.wanted_at (g := 30) (d := 33) (f := true) rfl rfl r33).trans rfl) (by go_simp) ⟨Pred.ext_refl _ _, rfl⟩
    · intro b X hE hd hn hV
      have r33 : b.tmps[33]?.getD undef = .bool true := hV 30 _ 33 rfl rfl (Pred.waits_near (by kernel_rfl) (by kernel_rfl))
      have r38 : b.tmps[38]?.getD undef = .bool true := hV 35 _ 38 rfl rfl (Pred.waits_near (by kernel_rfl) (by kernel_rfl))
      exact Pred.yields_run (v := .bool true) (Pred.wanted_none rfl) (by go_simp) ⟨Pred.ext_refl _ _, rfl⟩
    · intro b X hE hd hn hV
      have r39 : b.tmps[39]?.getD undef = .bool true := hV 36 _ 39 rfl rfl (Pred.waits_near (by kernel_rfl) (by kernel_rfl))
      exact Pred.yields_run (v := .bool true) (Pred.wanted_none rfl) (by go_simp) ⟨Pred.ext_refl _ _, rfl⟩
  intro v X hE hv
  have e0 : v 0 = .bool true := hv 0 _ 3 rfl rfl
  have e1 : v 1 = .bool true := hv 1 _ 4 rfl rfl
  have e2 : v 2 = .bool false := hv 2 _ 5 rfl rfl
  have e3 : v 3 = .bool true := hv 3 _ 6 rfl rfl
  have e4 : v 4 = .bool true := hv 4 _ 7 rfl rfl
  have e5 : v 5 = .bool true := hv 5 _ 8 rfl rfl
  have e6 : v 6 = .bool false := hv 6 _ 9 rfl rfl
  have e7 : v 7 = .bool true := hv 7 _ 10 rfl rfl
  have e8 : v 8 = .bool true := hv 8 _ 11 rfl rfl
  have e9 : v 9 = .bool true := hv 9 _ 12 rfl rfl
  have e10 : v 10 = .bool true := hv 10 _ 13 rfl rfl
  have e11 : v 11 = .bool true := hv 11 _ 14 rfl rfl
  have e12 : v 12 = .bool true := hv 12 _ 15 rfl rfl
  have e13 : v 13 = .bool false := hv 13 _ 16 rfl rfl
  have e14 : v 14 = .bool true := hv 14 _ 17 rfl rfl
  have e15 : v 15 = .bool true := hv 15 _ 18 rfl rfl
  have e16 : v 16 = .bool true := hv 16 _ 19 rfl rfl
  have e17 : v 17 = .agg #[.int .u8 (1), .int .u8 (2), .int .u8 (3), .int .u8 (4)] := hv 17 _ 20 rfl rfl
  have e18 : v 18 = .agg (gotV (0) (0) (0) (0) false) := hv 18 _ 21 rfl rfl
  have e19 : v 19 = .agg #[.int .u8 (1), .int .u8 (2), .int .u8 (3), .int .u8 (4)] := hv 19 _ 22 rfl rfl
  have e20 : v 20 = .agg #[.int .u8 (1), .int .u8 (2), .int .u8 (3), .int .u8 (4)] := hv 20 _ 23 rfl rfl
  have e21 : v 21 = .bool true := hv 21 _ 24 rfl rfl
  have e22 : v 22 = .bool true := hv 22 _ 25 rfl rfl
  have e23 : v 23 = .bool true := hv 23 _ 26 rfl rfl
  have e24 : v 24 = .agg #[.int .u8 (1), .int .u8 (2), .int .u8 (3), .int .u8 (4)] := hv 24 _ 27 rfl rfl
  have e25 : v 25 = .agg (gotV (0) (0) (0) (0) true) := hv 25 _ 28 rfl rfl
  have e26 : v 26 = .agg #[.int .u8 (255), .int .u8 (255), .int .u8 (255), .int .u8 (255)] := hv 26 _ 29 rfl rfl
  have e27 : v 27 = .agg #[.int .u8 (255), .int .u8 (255), .int .u8 (255), .int .u8 (255)] := hv 27 _ 30 rfl rfl
  have e28 : v 28 = .bool true := hv 28 _ 31 rfl rfl
  have e29 : v 29 = .bool true := hv 29 _ 32 rfl rfl
  have e30 : v 30 = .bool true := hv 30 _ 33 rfl rfl
  have e31 : v 31 = .agg #[.int .u8 (1), .int .u8 (2), .int .u8 (3), .int .u8 (4)] := hv 31 _ 34 rfl rfl
  have e32 : v 32 = .agg (gotV (0) (0) (0) (0) false) := hv 32 _ 35 rfl rfl
  have e33 : v 33 = .agg #[.int .u8 (1), .int .u8 (2), .int .u8 (3), .int .u8 (4)] := hv 33 _ 36 rfl rfl
  have e34 : v 34 = .agg #[.int .u8 (1), .int .u8 (2), .int .u8 (3), .int .u8 (4)] := hv 34 _ 37 rfl rfl
  have e35 : v 35 = .bool true := hv 35 _ 38 rfl rfl
  have e36 : v 36 = .bool true := hv 36 _ 39 rfl rfl
  have e37 : v 37 = .bool true := hv 37 _ 0 rfl rfl
  simp only [Pred.putsF_cons, Pred.putsF_nil, Nat.zero_add, Nat.reduceAdd, e0, e1, e2, e3, e4, e5, e6, e7, e8, e9, e10, e11, e12, e13, e14, e15, e16, e17, e18, e19, e20, e21, e22, e23, e24, e25, e26, e27, e28, e29, e30, e31, e32, e33, e34, e35, e36, e37, Act.put, List.setIfInBounds_toArray, List.set_cons_zero, List.set_cons_succ]
  clear e0 e1 e2 e3 e4 e5 e6 e7 e8 e9 e10 e11 e12 e13 e14 e15 e16 e17 e18 e19 e20 e21 e22 e23 e24 e25 e26 e27 e28 e29 e30 e31 e32 e33 e34 e35 e36 e37 hv
  have sX := hE.size
  have L2 : Below w.heap.size w X := L1.trans (hE.mono L1.size)
  go_wp2
  go_ret
  exact ⟨rfl, L2⟩
end Go.Proofs.YtbogcaiobdhmjaaDoor.ShB
