/-
  The laws of package shade.
-/
import Derived.Test.YtbogcaiobdhmjaaDoorShB
import Derived.Test.YtbogcaiobdhmjaaDoorPredS
namespace Go.Proofs.YtbogcaiobdhmjaaDoor.ShD
open Go.RowKit Rd HueA Go.Proofs.YtbogcaiobdhmjaaDoor.Row ShA ShB
open Go.Proofs.YtbogcaiobdhmjaaDoor.Pred (Is is_stab Stab)
set_option linter.unusedVariables false
set_option linter.unusedSimpArgs false
set_option maxRecDepth 100000
theorem load_col (x : Value) : Instr.loadAt 23 x = loadRow 23 x := rfl
theorem load_got (x : Value) : Instr.loadAt 26 x = loadRow 26 x := rfl
theorem run_load_col (g o : Nat) (W : World) : (loadRow 23 (.pointer (some ⟨g, o, none⟩))).run Tryd.prog W = rowLoad Tryd.prog 23 4 g o W := run_loadRow Tryd.underlying23 rfl (by kernel_rfl) g o W
theorem run_load_got (g o : Nat) (W : World) : (loadRow 26 (.pointer (some ⟨g, o, none⟩))).run Tryd.prog W = rowLoad Tryd.prog 26 7 g o W := run_loadRow Tryd.underlying26 rfl (by kernel_rfl) g o W
attribute [local go_sem ↓] load_col load_got
attribute [local go_sem] run_load_col run_load_got rowLoad_eq blk_alloc_at blk_alloc_old blk_drew blk_drewN Eq.eq_col
theorem got_size (a b c d : Int) (f : Bool) : (gotV a b c d f).size = 7 := rfl
attribute [local go_sem] got_size
theorem store_got (x v : Value) : Instr.storeAt 26 x v = storeRow 26 x v := rfl
theorem alloc_got : Instr.alloc 26 true (.tuple #[]) = allocRow 26 := rfl
theorem run_alloc_got (w : World) : (allocRow 26).run Tryd.prog w = .ok (.pointer (some ⟨w.heap.size, 0, none⟩)) (w.alloc (.cells (gotV 0 0 0 0 false) 26)) := by kernel_rfl
theorem run_store_got (g o : Nat) (c : Array Value) (W : World) : (storeRow 26 (.pointer (some ⟨g, o, none⟩)) (.agg c)).run Tryd.prog W = rowStore Tryd.prog 26 7 g o c W := run_storeRow (by kernel_rfl) g o c W
theorem got_all (a b c d : Int) (f : Bool) : (gotV a b c d f).all (fun x => x.oneCell') 0 7 = true := by simp [gotV, Value.oneCell']
def isW (a b c d : Int) : Bool := a == 255 && (b == 255 && (c == 255 && d == 255))
theorem times_white {b : Int} (h : B8 b) : timesB b 255 = b := by unfold timesB; obtain ⟨h1, h2⟩ := h; omega
theorem pixel_white (b0 b1 b2 b3 : Int) (f : Bool) (w : World) (h0 : B8 b0) (h1 : B8 b1) (h2 : B8 b2) (h3 : B8 b3) (hT : TB w) :
    Calls Tryd.prog 8 #[.int .i64 3, .agg #[.int .u8 255, .int .u8 255, .int .u8 255, .int .u8 255], .agg (gotV b0 b1 b2 b3 f)] w fun e w' => e = .returned (.agg #[.int .u8 b0, .int .u8 b1, .int .u8 b2, .int .u8 b3]) ∧ Below w.heap.size w w' := by
  have h := pixel_3 255 255 255 255 b0 b1 b2 b3 f w (by decide) (by decide) (by decide) (by decide) h0 h1 h2 h3 hT
  rw [times_white h0, times_white h1, times_white h2, times_white h3] at h
  exact h
theorem times_comm (a b : Int) : timesB a b = timesB b a := by unfold timesB; rw [Int.mul_comm]
theorem times_zero (b : Int) : timesB b 0 = 0 := by unfold timesB; simp
attribute [local go_sem ↓] store_got alloc_got
attribute [local go_sem] run_alloc_got run_store_got rowStore_eq got_all setRow_alloc_at setRow_alloc_old setRow_drew setRow_drewN
set_option maxHeartbeats 4000000 in
theorem ShadeHangs_walk (a0_0 : Int) (a0_1 : Int) (a0_2 : Int) (a0_3 : Int) (a1_0 : Int) (a1_1 : Int) (a1_2 : Int) (a1_3 : Int) (a2_0 : Int) (a2_1 : Int) (a2_2 : Int) (a2_3 : Int) (a3 : Bool) (w : World) (hT : TB w) (w0_0 : (Lit.int .u8 a0_0).wf = true) (w0_1 : (Lit.int .u8 a0_1).wf = true) (w0_2 : (Lit.int .u8 a0_2).wf = true) (w0_3 : (Lit.int .u8 a0_3).wf = true) (w1_0 : (Lit.int .u8 a1_0).wf = true) (w1_1 : (Lit.int .u8 a1_1).wf = true) (w1_2 : (Lit.int .u8 a1_2).wf = true) (w1_3 : (Lit.int .u8 a1_3).wf = true) (w2_0 : (Lit.int .u8 a2_0).wf = true) (w2_1 : (Lit.int .u8 a2_1).wf = true) (w2_2 : (Lit.int .u8 a2_2).wf = true) (w2_3 : (Lit.int .u8 a2_3).wf = true) :
    Calls Tryd.prog 4 #[.agg #[.int .u8 a0_0, .int .u8 a0_1, .int .u8 a0_2, .int .u8 a0_3], .agg #[.int .u8 a1_0, .int .u8 a1_1, .int .u8 a1_2, .int .u8 a1_3], .agg #[.int .u8 a2_0, .int .u8 a2_1, .int .u8 a2_2, .int .u8 a2_3], .bool a3] w fun e w' => e = .returned (.bool true) ∧ Below w.heap.size w w' := by
  have pa0 : B8 a0_0 := bounds_u8 w0_0
  have pb0 : B8 a1_0 := bounds_u8 w1_0
  have pc0 : B8 a2_0 := bounds_u8 w2_0
  have pa1 : B8 a0_1 := bounds_u8 w0_1
  have pb1 : B8 a1_1 := bounds_u8 w1_1
  have pc1 : B8 a2_1 := bounds_u8 w2_1
  have pa2 : B8 a0_2 := bounds_u8 w0_2
  have pb2 : B8 a1_2 := bounds_u8 w1_2
  have pc2 : B8 a2_2 := bounds_u8 w2_2
  have pa3 : B8 a0_3 := bounds_u8 w0_3
  have pb3 : B8 a1_3 := bounds_u8 w1_3
  have pc3 : B8 a2_3 := bounds_u8 w2_3
  clear w0_0 w1_0 w2_0 w0_1 w1_1 w2_1 w0_2 w1_2 w2_2 w0_3 w1_3 w2_3
  have h0 := hT.1
  cases a3
  · go_enter Tryd.func4, Tryd.ntmps4
    go_upto_region 1 with (fail)
    refine Rd.name_world ?_
    intro W hW
    have bA : blk W w.heap.size = some (.cells #[.int .u8 (a0_0), .int .u8 (a0_1), .int .u8 (a0_2), .int .u8 (a0_3)] 23 (0, 0)) := by rw [hW]; exact blk3_0 w _ _ _
    have bB : blk W (w.heap.size + 1) = some (.cells #[.int .u8 (a1_0), .int .u8 (a1_1), .int .u8 (a1_2), .int .u8 (a1_3)] 23 (0, 0)) := by rw [hW]; exact blk3_1 w _ _ _
    have bC : blk W (w.heap.size + 1 + 1) = some (.cells #[.int .u8 (a2_0), .int .u8 (a2_1), .int .u8 (a2_2), .int .u8 (a2_3)] 23 (0, 0)) := by rw [hW]; exact blk3_2 w _ _ _
    have L1 : Below w.heap.size w W := by rw [hW]; repeat' (first | (with_reducible exact Below.refl _ _) | (with_reducible refine Rd.below_step ?_ (by assumption)) | (with_reducible refine Rd.below_alloc ?_ _) | (with_reducible refine Rd.below_drewN ?_ _) | (with_reducible refine Below.drew ?_) | (with_reducible refine Below.setCell ?_ ?_ _) | (with_reducible refine Rd.below_setRow ?_ ?_ _) | go_size | (simp only [World.size_alloc]; omega) | omega)
    have lA := blk_lt bA
    have lB := blk_lt bB
    have lC := blk_lt bC
    clear hW
    refine PredS.region_vals (W := W) [⟨7, 9, 26, (gotV 0 0 0 0 false), (gotV a1_0 a1_1 a1_2 a1_3 false)⟩, ⟨8, 10, 26, (gotV 0 0 0 0 false), (gotV a2_0 a2_1 a2_2 a2_3 true)⟩] (PredS.Of [
        PredS.Is (.agg #[.int .u8 (a1_0), .int .u8 (a1_1), .int .u8 (a1_2), .int .u8 (a1_3)]),
        PredS.Is (.bool false),
        PredS.Is (.agg (gotV (a1_0) (a1_1) (a1_2) (a1_3) false)),
        PredS.Is (.agg #[.int .u8 (a2_0), .int .u8 (a2_1), .int .u8 (a2_2), .int .u8 (a2_3)]),
        PredS.Is (.bool false),
        PredS.Is (.bool true),
        PredS.Is (.agg (gotV (a2_0) (a2_1) (a2_2) (a2_3) true)),
        PredS.Is undef,
        PredS.Is undef,
        PredS.Is undef,
        PredS.Is undef]) (by kernel_rfl) (by kernel_rfl) (by kernel_rfl) (by kernel_rfl) (PredS.of_stab ?_) ?_ ?_ ?_
    · exact ⟨PredS.is_stab _, PredS.is_stab _, PredS.is_stab _, PredS.is_stab _, PredS.is_stab _, PredS.is_stab _, PredS.is_stab _, PredS.is_stab _, PredS.is_stab _, PredS.is_stab _, PredS.is_stab _, trivial⟩
    · refine ⟨.inr ?_, .inr ?_, .inr ?_, .inr ?_, .inr ?_, .inr ?_, .inr ?_, .inl rfl, .inl rfl, .inl rfl, .inl rfl, trivial⟩
      · intro b X hE hd hn hV
        have r5 : b.tmps[5]?.getD undef = .pointer (some ⟨w.heap.size + 1, 0, none⟩) := (hn 5 (by kernel_rfl)).trans rfl
        have q := (blk_below hE _ lB).trans bB
        exact Pred.yields_run (v := .agg #[.int .u8 (a1_0), .int .u8 (a1_1), .int .u8 (a1_2), .int .u8 (a1_3)]) (Pred.wanted_none rfl) (by go_simp) ⟨PredS.ext_refl _ _ _, rfl⟩
      · intro b X hE hd hn hV
        have r3 : b.tmps[3]?.getD undef = .bool false := (hn 3 (by kernel_rfl)).trans rfl
        exact Pred.yields_run (v := .bool false) (Pred.wanted_none rfl) (by go_simp) ⟨PredS.ext_refl _ _ _, rfl⟩
      · intro b X hE hd hn hV
        have r12 : b.tmps[12]?.getD undef = .agg #[.int .u8 (a1_0), .int .u8 (a1_1), .int .u8 (a1_2), .int .u8 (a1_3)] := hV 0 _ 12 rfl rfl rfl (Pred.waits_near (by kernel_rfl) (by kernel_rfl))
        have r13 : b.tmps[13]?.getD undef = .bool false := hV 1 _ 13 rfl rfl rfl (Pred.waits_near (by kernel_rfl) (by kernel_rfl))
        exact Pred.yields_run (v := .agg (gotV (a1_0) (a1_1) (a1_2) (a1_3) false)) (Pred.wanted_none rfl) (by first | (go_simp; done) | (go_simp; rfl)) ⟨PredS.ext_refl _ _ _, rfl⟩
      · intro b X hE hd hn hV
        have r6 : b.tmps[6]?.getD undef = .pointer (some ⟨w.heap.size + 1 + 1, 0, none⟩) := (hn 6 (by kernel_rfl)).trans rfl
        have q := (blk_below hE _ lC).trans bC
        exact Pred.yields_run (v := .agg #[.int .u8 (a2_0), .int .u8 (a2_1), .int .u8 (a2_2), .int .u8 (a2_3)]) (Pred.wanted_none rfl) (by go_simp) ⟨PredS.ext_refl _ _ _, rfl⟩
      · intro b X hE hd hn hV
        have r3 : b.tmps[3]?.getD undef = .bool false := (hn 3 (by kernel_rfl)).trans rfl
        exact Pred.yields_run (v := .bool false) (Pred.wanted_none rfl) (by go_simp) ⟨PredS.ext_refl _ _ _, rfl⟩
      · intro b X hE hd hn hV
        have r16 : b.tmps[16]?.getD undef = .bool false := hV 4 _ 16 rfl rfl rfl (Pred.waits_near (by kernel_rfl) (by kernel_rfl))
        exact Pred.yields_run (v := .bool true) (Pred.wanted_none rfl) (by go_simp) ⟨PredS.ext_refl _ _ _, rfl⟩
      · intro b X hE hd hn hV
        have r15 : b.tmps[15]?.getD undef = .agg #[.int .u8 (a2_0), .int .u8 (a2_1), .int .u8 (a2_2), .int .u8 (a2_3)] := hV 3 _ 15 rfl rfl rfl (Pred.waits_near (by kernel_rfl) (by kernel_rfl))
        have r17 : b.tmps[17]?.getD undef = .bool true := hV 5 _ 17 rfl rfl rfl (Pred.waits_near (by kernel_rfl) (by kernel_rfl))
        exact Pred.yields_run (v := .agg (gotV (a2_0) (a2_1) (a2_2) (a2_3) true)) (Pred.wanted_none rfl) (by first | (go_simp; done) | (go_simp; rfl)) ⟨PredS.ext_refl _ _ _, rfl⟩
    · refine ⟨?_, ?_, trivial⟩
      · refine ⟨_, 9, _, rfl, rfl, by simp, rfl, fun ρ w => by first | (go_simp; done) | (go_simp; rfl), rfl, rfl, Pred.waits_near (by kernel_rfl) (by kernel_rfl), fun b X g hE hn hV hp hg hb => ?_⟩
        have r14 : b.tmps[14]?.getD undef = .agg (gotV (a1_0) (a1_1) (a1_2) (a1_3) false) := hV 2 _ 14 rfl rfl rfl (Pred.waits_near (by kernel_rfl) (by kernel_rfl))
        simp only at hb
        exact PredS.yields_skip (Pred.wanted_none rfl) (by go_simp) rfl
      · refine ⟨_, 10, _, rfl, rfl, by simp, rfl, fun ρ w => by first | (go_simp; done) | (go_simp; rfl), rfl, rfl, Pred.waits_near (by kernel_rfl) (by kernel_rfl), fun b X g hE hn hV hp hg hb => ?_⟩
        have r18 : b.tmps[18]?.getD undef = .agg (gotV (a2_0) (a2_1) (a2_2) (a2_3) true) := hV 6 _ 18 rfl rfl rfl (Pred.waits_near (by kernel_rfl) (by kernel_rfl))
        simp only at hb
        exact PredS.yields_skip (Pred.wanted_none rfl) (by go_simp) rfl
    intro v XA hE hv hL
    have e0 : v 0 = .agg #[.int .u8 (a1_0), .int .u8 (a1_1), .int .u8 (a1_2), .int .u8 (a1_3)] := hv 0 _ 12 rfl rfl rfl
    have e1 : v 1 = .bool false := hv 1 _ 13 rfl rfl rfl
    have e2 : v 2 = .agg (gotV (a1_0) (a1_1) (a1_2) (a1_3) false) := hv 2 _ 14 rfl rfl rfl
    have e3 : v 3 = .agg #[.int .u8 (a2_0), .int .u8 (a2_1), .int .u8 (a2_2), .int .u8 (a2_3)] := hv 3 _ 15 rfl rfl rfl
    have e4 : v 4 = .bool false := hv 4 _ 16 rfl rfl rfl
    have e5 : v 5 = .bool true := hv 5 _ 17 rfl rfl rfl
    have e6 : v 6 = .agg (gotV (a2_0) (a2_1) (a2_2) (a2_3) true) := hv 6 _ 18 rfl rfl rfl
    obtain ⟨⟨g7, e7, o7, q7, n7⟩, ⟨⟨g8, e8, o8, q8, n8⟩, -⟩⟩ := hL
    replace q7 : blk XA g7 = some (.cells (gotV a1_0 a1_1 a1_2 a1_3 false) 26 (0, 0)) := q7
    have d8_7 : g8 ≠ g7 := fun e => n7 _ (by simp) (e8.trans (by rw [e]))
    replace q8 : blk XA g8 = some (.cells (gotV a2_0 a2_1 a2_2 a2_3 true) 26 (0, 0)) := q8
    clear n7 n8
    simp only [Pred.putsF_cons, Pred.putsF_nil, Nat.zero_add, Nat.reduceAdd, e0, e1, e2, e3, e4, e5, e6, e7, e8, Act.put, List.setIfInBounds_toArray, List.set_cons_zero, List.set_cons_succ]
    clear e0 e1 e2 e3 e4 e5 e6 e7 e8 hv
    have cA := (blk_below hE _ lA).trans bA
    have cB := (blk_below hE _ lB).trans bB
    have cC := (blk_below hE _ lC).trans bC
    have sX := hE.size
    have L2 : Below w.heap.size w XA := L1.trans (hE.mono L1.size)
    clear hE bA bB bC lA lB lC L1
    have mA := blk_lt cA
    have mB := blk_lt cB
    have mC := blk_lt cC
    have m7 := blk_lt q7
    have m8 := blk_lt q8
    go_upto_region 3 with (fail)
    refine Rd.name_world ?_
    intro W' hW
    have bA : blk W' w.heap.size = some (.cells #[.int .u8 (a0_0), .int .u8 (a0_1), .int .u8 (a0_2), .int .u8 (a0_3)] 23 (0, 0)) := by rw [hW, blk_alloc_old _ _ _ mA]; exact cA
    have bB : blk W' (w.heap.size + 1) = some (.cells #[.int .u8 (a1_0), .int .u8 (a1_1), .int .u8 (a1_2), .int .u8 (a1_3)] 23 (0, 0)) := by rw [hW, blk_alloc_old _ _ _ mB]; exact cB
    have bG : blk W' g7 = some (.cells (gotV a1_0 a1_1 a1_2 a1_3 false) 26 (0, 0)) := by rw [hW, blk_alloc_old _ _ _ m7]; exact q7
    have bH : blk W' g8 = some (.cells (gotV a2_0 a2_1 a2_2 a2_3 true) 26 (0, 0)) := by rw [hW, blk_alloc_old _ _ _ m8]; exact q8
    have bW : blk W' XA.heap.size = some (.cells #[.int .u8 (255), .int .u8 (255), .int .u8 (255), .int .u8 (255)] 23 (0, 0)) := by rw [hW]; exact blk_alloc_at _ _ _ rfl
    have L3 : Below w.heap.size w W' := by rw [hW]; repeat' (first | (with_reducible exact Below.refl _ _) | (with_reducible refine Rd.below_step ?_ (by assumption)) | (with_reducible refine Rd.below_alloc ?_ _) | (with_reducible refine Rd.below_drewN ?_ _) | (with_reducible refine Below.drew ?_) | (with_reducible refine Below.setCell ?_ ?_ _) | (with_reducible refine Rd.below_setRow ?_ ?_ _) | go_size | (simp only [World.size_alloc]; omega) | omega)
    have TW := hT.below L3 h0
    have lA := blk_lt bA
    have lB := blk_lt bB
    have lG := blk_lt bG
    have lH := blk_lt bH
    have lWh := blk_lt bW
    have lW : 0 < W'.heap.size := TW.1
    clear hW
    refine Pred.region_vals (Pred.Of [
        Is (.agg #[.int .u8 (a0_0), .int .u8 (a0_1), .int .u8 (a0_2), .int .u8 (a0_3)]),
        Is (.agg (gotV (a1_0) (a1_1) (a1_2) (a1_3) false)),
        Is (.agg #[.int .u8 (a0_0), .int .u8 (a0_1), .int .u8 (a0_2), .int .u8 (a0_3)]),
        Is (.agg #[.int .u8 (a0_0), .int .u8 (a0_1), .int .u8 (a0_2), .int .u8 (a0_3)]),
        Is (.agg (gotV (a2_0) (a2_1) (a2_2) (a2_3) true)),
        Is (.agg #[.int .u8 (a0_0), .int .u8 (a0_1), .int .u8 (a0_2), .int .u8 (a0_3)]),
        Is (.bool true),
        Is (.bool true),
        Is (.agg #[.int .u8 (a0_0), .int .u8 (a0_1), .int .u8 (a0_2), .int .u8 (a0_3)]),
        Is (.agg (gotV (a1_0) (a1_1) (a1_2) (a1_3) false)),
        Is (.agg #[.int .u8 (a1_0), .int .u8 (a1_1), .int .u8 (a1_2), .int .u8 (a1_3)]),
        Is (.agg #[.int .u8 (a1_0), .int .u8 (a1_1), .int .u8 (a1_2), .int .u8 (a1_3)]),
        Is (.bool true),
        Is (.bool true),
        Is (.bool true),
        Is (.agg #[.int .u8 (255), .int .u8 (255), .int .u8 (255), .int .u8 (255)]),
        Is (.agg (gotV (a1_0) (a1_1) (a1_2) (a1_3) false)),
        Is (.agg #[.int .u8 (a1_0), .int .u8 (a1_1), .int .u8 (a1_2), .int .u8 (a1_3)]),
        Is (.agg #[.int .u8 (a1_0), .int .u8 (a1_1), .int .u8 (a1_2), .int .u8 (a1_3)]),
        Is (.bool true),
        Is (.bool true),
        Is (.bool true),
        Is (.agg #[.int .u8 (a0_0), .int .u8 (a0_1), .int .u8 (a0_2), .int .u8 (a0_3)]),
        Is (.agg (gotV (a1_0) (a1_1) (a1_2) (a1_3) false)),
        Is (.agg #[.int .u8 (timesB a1_0 a0_0), .int .u8 (timesB a1_1 a0_1), .int .u8 (timesB a1_2 a0_2), .int .u8 (timesB a1_3 a0_3)]),
        Is (.agg #[.int .u8 (a1_0), .int .u8 (a1_1), .int .u8 (a1_2), .int .u8 (a1_3)]),
        Is (.agg #[.int .u8 (a0_0), .int .u8 (a0_1), .int .u8 (a0_2), .int .u8 (a0_3)]),
        Is (.agg #[.int .u8 (timesB a1_0 a0_0), .int .u8 (timesB a1_1 a0_1), .int .u8 (timesB a1_2 a0_2), .int .u8 (timesB a1_3 a0_3)]),
        Is (.bool true),
        Is (.bool true),
        Is (.bool true),
        Is (.agg #[.int .u8 (a0_0), .int .u8 (a0_1), .int .u8 (a0_2), .int .u8 (a0_3)]),
        Is (.agg (gotV (a1_0) (a1_1) (a1_2) (a1_3) false)),
        Is (.agg #[.int .u8 (a0_0), .int .u8 (a0_1), .int .u8 (a0_2), .int .u8 (a0_3)]),
        Is (.agg #[.int .u8 (255), .int .u8 (255), .int .u8 (255), .int .u8 (255)]),
        Is (.bool (isW a0_0 a0_1 a0_2 a0_3)),
        Is (.bool false),
        Is (.bool false),
        Is (.agg #[.int .u8 (a0_0), .int .u8 (a0_1), .int .u8 (a0_2), .int .u8 (a0_3)]),
        Is (.agg #[.int .u8 (255), .int .u8 (255), .int .u8 (255), .int .u8 (255)]),
        Is (.bool (isW a0_0 a0_1 a0_2 a0_3)),
        Is (.bool (isW a0_0 a0_1 a0_2 a0_3)),
        Is (.bool true),
        Is (.bool true),
        Is (.bool true),
        Is (.agg #[.int .u8 (a0_0), .int .u8 (a0_1), .int .u8 (a0_2), .int .u8 (a0_3)]),
        Is (.agg (gotV (a1_0) (a1_1) (a1_2) (a1_3) false)),
        Is (.agg #[.int .u8 (0), .int .u8 (0), .int .u8 (0), .int .u8 (0)]),
        Is (.agg #[.int .u8 (0), .int .u8 (0), .int .u8 (0), .int .u8 (0)]),
        Is (.bool true),
        Is (.bool true),
        Is (.bool true),
        Is (.bool true),
        Is (.bool true),
        Is (.bool true)]) (by kernel_rfl) (by kernel_rfl) (by kernel_rfl) (Pred.of_stab ?_) ?_ ?_
    · exact ⟨is_stab _, is_stab _, is_stab _, is_stab _, is_stab _, is_stab _, is_stab _, is_stab _, is_stab _, is_stab _, is_stab _, is_stab _, is_stab _, is_stab _, is_stab _, is_stab _, is_stab _, is_stab _, is_stab _, is_stab _, is_stab _, is_stab _, is_stab _, is_stab _, is_stab _, is_stab _, is_stab _, is_stab _, is_stab _, is_stab _, is_stab _, is_stab _, is_stab _, is_stab _, is_stab _, is_stab _, is_stab _, is_stab _, is_stab _, is_stab _, is_stab _, is_stab _, is_stab _, is_stab _, is_stab _, is_stab _, is_stab _, is_stab _, is_stab _, is_stab _, is_stab _, is_stab _, is_stab _, is_stab _, is_stab _, trivial⟩
    · refine ⟨?_, ?_, ?_, ?_, ?_, ?_, ?_, ?_, ?_, ?_, ?_, ?_, ?_, ?_, ?_, ?_, ?_, ?_, ?_, ?_, ?_, ?_, ?_, ?_, ?_, ?_, ?_, ?_, ?_, ?_, ?_, ?_, ?_, ?_, ?_, ?_, ?_, ?_, ?_, ?_, ?_, ?_, ?_, ?_, ?_, ?_, ?_, ?_, ?_, ?_, ?_, ?_, ?_, ?_, ?_, trivial⟩
      · intro b X hE hd hn hV
        have r4 : b.tmps[4]?.getD undef = .pointer (some ⟨w.heap.size, 0, none⟩) := (hn 4 (by kernel_rfl)).trans rfl
        have q := (blk_below hE _ lA).trans bA
        exact Pred.yields_run (v := .agg #[.int .u8 (a0_0), .int .u8 (a0_1), .int .u8 (a0_2), .int .u8 (a0_3)]) (Pred.wanted_none rfl) (by go_simp) ⟨Pred.ext_refl _ _, rfl⟩
      · intro b X hE hd hn hV
        have r9 : b.tmps[9]?.getD undef = .pointer (some ⟨g7, 0, none⟩) := (hn 9 (by kernel_rfl)).trans rfl
        have q := (blk_below hE _ lG).trans bG
        exact Pred.yields_run (v := .agg (gotV (a1_0) (a1_1) (a1_2) (a1_3) false)) (Pred.wanted_none rfl) (by go_simp) ⟨Pred.ext_refl _ _, rfl⟩
      · intro b X hE hd hn hV
        have r20 : b.tmps[20]?.getD undef = .agg #[.int .u8 (a0_0), .int .u8 (a0_1), .int .u8 (a0_2), .int .u8 (a0_3)] := hV 0 _ 20 rfl rfl (Pred.waits_near (by kernel_rfl) (by kernel_rfl))
        have r21 : b.tmps[21]?.getD undef = .agg (gotV (a1_0) (a1_1) (a1_2) (a1_3) false) := hV 1 _ 21 rfl rfl (Pred.waits_near (by kernel_rfl) (by kernel_rfl))
        have tb := TW.below hE lW
        refine Pred.yields_call (f := 8) (args := #[.int .i64 1, .agg #[.int .u8 (a0_0), .int .u8 (a0_1), .int .u8 (a0_2), .int .u8 (a0_3)], .agg (gotV (a1_0) (a1_1) (a1_2) (a1_3) false)]) (Pred.wanted_none rfl) (by go_simp) ?_
        exact (pixel_1 a0_0 a0_1 a0_2 a0_3 a1_0 a1_1 a1_2 a1_3 false _ pa0 pa1 pa2 pa3 pb0 pb1 pb2 pb3 tb).mono fun e w2 ⟨he, hb⟩ => ⟨_, he, Pred.ext_below hb hE.size, rfl⟩
      · intro b X hE hd hn hV
        have r4 : b.tmps[4]?.getD undef = .pointer (some ⟨w.heap.size, 0, none⟩) := (hn 4 (by kernel_rfl)).trans rfl
        have q := (blk_below hE _ lA).trans bA
        exact Pred.yields_run (v := .agg #[.int .u8 (a0_0), .int .u8 (a0_1), .int .u8 (a0_2), .int .u8 (a0_3)]) (Pred.wanted_none rfl) (by go_simp) ⟨Pred.ext_refl _ _, rfl⟩
      · intro b X hE hd hn hV
        have r10 : b.tmps[10]?.getD undef = .pointer (some ⟨g8, 0, none⟩) := (hn 10 (by kernel_rfl)).trans rfl
        have q := (blk_below hE _ lH).trans bH
        exact Pred.yields_run (v := .agg (gotV (a2_0) (a2_1) (a2_2) (a2_3) true)) (Pred.wanted_none rfl) (by go_simp) ⟨Pred.ext_refl _ _, rfl⟩
      · intro b X hE hd hn hV
        have r23 : b.tmps[23]?.getD undef = .agg #[.int .u8 (a0_0), .int .u8 (a0_1), .int .u8 (a0_2), .int .u8 (a0_3)] := hV 3 _ 23 rfl rfl (Pred.waits_near (by kernel_rfl) (by kernel_rfl))
        have r24 : b.tmps[24]?.getD undef = .agg (gotV (a2_0) (a2_1) (a2_2) (a2_3) true) := hV 4 _ 24 rfl rfl (Pred.waits_near (by kernel_rfl) (by kernel_rfl))
        have tb := TW.below hE lW
        refine Pred.yields_call (f := 8) (args := #[.int .i64 1, .agg #[.int .u8 (a0_0), .int .u8 (a0_1), .int .u8 (a0_2), .int .u8 (a0_3)], .agg (gotV (a2_0) (a2_1) (a2_2) (a2_3) true)]) (Pred.wanted_none rfl) (by go_simp) ?_
        exact (pixel_1 a0_0 a0_1 a0_2 a0_3 a2_0 a2_1 a2_2 a2_3 true _ pa0 pa1 pa2 pa3 pc0 pc1 pc2 pc3 tb).mono fun e w2 ⟨he, hb⟩ => ⟨_, he, Pred.ext_below hb hE.size, rfl⟩
      · intro b X hE hd hn hV
        have r22 : b.tmps[22]?.getD undef = .agg #[.int .u8 (a0_0), .int .u8 (a0_1), .int .u8 (a0_2), .int .u8 (a0_3)] := hV 2 _ 22 rfl rfl (Pred.waits_near (by kernel_rfl) (by kernel_rfl))
        have r25 : b.tmps[25]?.getD undef = .agg #[.int .u8 (a0_0), .int .u8 (a0_1), .int .u8 (a0_2), .int .u8 (a0_3)] := hV 5 _ 25 rfl rfl (Pred.waits_near (by kernel_rfl) (by kernel_rfl))
        exact Pred.yields_run (v := .bool true) (Pred.wanted_none rfl) (by go_simp) ⟨Pred.ext_refl _ _, rfl⟩
      · intro b X hE hd hn hV
        have r26 : b.tmps[26]?.getD undef = .bool true := hV 6 _ 26 rfl rfl (Pred.waits_near (by kernel_rfl) (by kernel_rfl))
        exact Pred.yields_run (v := .bool true) (Pred.wanted_none rfl) (by go_simp) ⟨Pred.ext_refl _ _, rfl⟩
      · intro b X hE hd hn hV
        have r4 : b.tmps[4]?.getD undef = .pointer (some ⟨w.heap.size, 0, none⟩) := (hn 4 (by kernel_rfl)).trans rfl
        have r27 : b.tmps[27]?.getD undef = .bool true := hV 7 _ 27 rfl rfl (Pred.waits_near (by kernel_rfl) (by kernel_rfl))
        have q := (blk_below hE _ lA).trans bA
        exact Pred.yields_run (v := .agg #[.int .u8 (a0_0), .int .u8 (a0_1), .int .u8 (a0_2), .int .u8 (a0_3)]) ((Pred.wanted_at (g := 7) (d := 27) (f := true) rfl rfl r27).trans rfl) (by go_simp) ⟨Pred.ext_refl _ _, rfl⟩
      · intro b X hE hd hn hV
        have r9 : b.tmps[9]?.getD undef = .pointer (some ⟨g7, 0, none⟩) := (hn 9 (by kernel_rfl)).trans rfl
        have r27 : b.tmps[27]?.getD undef = .bool true := hV 7 _ 27 rfl rfl (Pred.waits_near (by kernel_rfl) (by kernel_rfl))
        have q := (blk_below hE _ lG).trans bG
        exact Pred.yields_run (v := .agg (gotV (a1_0) (a1_1) (a1_2) (a1_3) false)) ((Pred.wanted_at (g := 7) (d := 27) (f := true) rfl rfl r27).trans rfl) (by go_simp) ⟨Pred.ext_refl _ _, rfl⟩
      · intro b X hE hd hn hV
        have r28 : b.tmps[28]?.getD undef = .agg #[.int .u8 (a0_0), .int .u8 (a0_1), .int .u8 (a0_2), .int .u8 (a0_3)] := hV 8 _ 28 rfl rfl (Pred.waits_near (by kernel_rfl) (by kernel_rfl))
        have r29 : b.tmps[29]?.getD undef = .agg (gotV (a1_0) (a1_1) (a1_2) (a1_3) false) := hV 9 _ 29 rfl rfl (Pred.waits_near (by kernel_rfl) (by kernel_rfl))
        have r27 : b.tmps[27]?.getD undef = .bool true := hV 7 _ 27 rfl rfl (Pred.waits_near (by kernel_rfl) (by kernel_rfl))
        have tb := TW.below hE lW
        refine Pred.yields_call (f := 8) (args := #[.int .i64 2, .agg #[.int .u8 (a0_0), .int .u8 (a0_1), .int .u8 (a0_2), .int .u8 (a0_3)], .agg (gotV (a1_0) (a1_1) (a1_2) (a1_3) false)]) ((Pred.wanted_at (g := 7) (d := 27) (f := true) rfl rfl r27).trans rfl) (by go_simp) ?_
        exact (pixel_2 a0_0 a0_1 a0_2 a0_3 a1_0 a1_1 a1_2 a1_3 false _ pa0 pa1 pa2 pa3 pb0 pb1 pb2 pb3 tb).mono fun e w2 ⟨he, hb⟩ => ⟨_, he, Pred.ext_below hb hE.size, rfl⟩
      · intro b X hE hd hn hV
        have r5 : b.tmps[5]?.getD undef = .pointer (some ⟨w.heap.size + 1, 0, none⟩) := (hn 5 (by kernel_rfl)).trans rfl
        have r27 : b.tmps[27]?.getD undef = .bool true := hV 7 _ 27 rfl rfl (Pred.waits_near (by kernel_rfl) (by kernel_rfl))
        have q := (blk_below hE _ lB).trans bB
        exact Pred.yields_run (v := .agg #[.int .u8 (a1_0), .int .u8 (a1_1), .int .u8 (a1_2), .int .u8 (a1_3)]) ((Pred.wanted_at (g := 7) (d := 27) (f := true) rfl rfl r27).trans rfl) (by go_simp) ⟨Pred.ext_refl _ _, rfl⟩
      · intro b X hE hd hn hV
        have r30 : b.tmps[30]?.getD undef = .agg #[.int .u8 (a1_0), .int .u8 (a1_1), .int .u8 (a1_2), .int .u8 (a1_3)] := hV 10 _ 30 rfl rfl (Pred.waits_near (by kernel_rfl) (by kernel_rfl))
        have r31 : b.tmps[31]?.getD undef = .agg #[.int .u8 (a1_0), .int .u8 (a1_1), .int .u8 (a1_2), .int .u8 (a1_3)] := hV 11 _ 31 rfl rfl (Pred.waits_near (by kernel_rfl) (by kernel_rfl))
        have r27 : b.tmps[27]?.getD undef = .bool true := hV 7 _ 27 rfl rfl (Pred.waits_near (by kernel_rfl) (by kernel_rfl))
        exact Pred.yields_run (v := .bool true) ((Pred.wanted_at (g := 7) (d := 27) (f := true) rfl rfl r27).trans rfl) (by go_simp) ⟨Pred.ext_refl _ _, rfl⟩
      · intro b X hE hd hn hV
        have r27 : b.tmps[27]?.getD undef = .bool true := hV 7 _ 27 rfl rfl (Pred.waits_near (by kernel_rfl) (by kernel_rfl))
        have r32 : b.tmps[32]?.getD undef = .bool true := hV 12 _ 32 rfl rfl (Pred.waits_near (by kernel_rfl) (by kernel_rfl))
        exact Pred.yields_run (v := .bool true) (Pred.wanted_none rfl) (by go_simp) ⟨Pred.ext_refl _ _, rfl⟩
      · intro b X hE hd hn hV
        have r33 : b.tmps[33]?.getD undef = .bool true := hV 13 _ 33 rfl rfl (Pred.waits_near (by kernel_rfl) (by kernel_rfl))
        exact Pred.yields_run (v := .bool true) (Pred.wanted_none rfl) (by go_simp) ⟨Pred.ext_refl _ _, rfl⟩
      · intro b X hE hd hn hV
        have r11 : b.tmps[11]?.getD undef = .pointer (some ⟨XA.heap.size, 0, none⟩) := (hn 11 (by kernel_rfl)).trans rfl
        have r34 : b.tmps[34]?.getD undef = .bool true := hV 14 _ 34 rfl rfl (Pred.waits_near (by kernel_rfl) (by kernel_rfl))
        have q := (blk_below hE _ lWh).trans bW
        exact Pred.yields_run (v := .agg #[.int .u8 (255), .int .u8 (255), .int .u8 (255), .int .u8 (255)]) ((Pred.wanted_at (g := 14) (d := 34) (f := true) rfl rfl r34).trans rfl) (by go_simp) ⟨Pred.ext_refl _ _, rfl⟩
      · intro b X hE hd hn hV
        have r9 : b.tmps[9]?.getD undef = .pointer (some ⟨g7, 0, none⟩) := (hn 9 (by kernel_rfl)).trans rfl
        have r34 : b.tmps[34]?.getD undef = .bool true := hV 14 _ 34 rfl rfl (Pred.waits_near (by kernel_rfl) (by kernel_rfl))
        have q := (blk_below hE _ lG).trans bG
        exact Pred.yields_run (v := .agg (gotV (a1_0) (a1_1) (a1_2) (a1_3) false)) ((Pred.wanted_at (g := 14) (d := 34) (f := true) rfl rfl r34).trans rfl) (by go_simp) ⟨Pred.ext_refl _ _, rfl⟩
      · intro b X hE hd hn hV
        have r35 : b.tmps[35]?.getD undef = .agg #[.int .u8 (255), .int .u8 (255), .int .u8 (255), .int .u8 (255)] := hV 15 _ 35 rfl rfl (Pred.waits_near (by kernel_rfl) (by kernel_rfl))
        have r36 : b.tmps[36]?.getD undef = .agg (gotV (a1_0) (a1_1) (a1_2) (a1_3) false) := hV 16 _ 36 rfl rfl (Pred.waits_near (by kernel_rfl) (by kernel_rfl))
        have r34 : b.tmps[34]?.getD undef = .bool true := hV 14 _ 34 rfl rfl (Pred.waits_near (by kernel_rfl) (by kernel_rfl))
        have tb := TW.below hE lW
        refine Pred.yields_call (f := 8) (args := #[.int .i64 3, .agg #[.int .u8 (255), .int .u8 (255), .int .u8 (255), .int .u8 (255)], .agg (gotV (a1_0) (a1_1) (a1_2) (a1_3) false)]) ((Pred.wanted_at (g := 14) (d := 34) (f := true) rfl rfl r34).trans rfl) (by go_simp) ?_
        exact (pixel_white a1_0 a1_1 a1_2 a1_3 false _ pb0 pb1 pb2 pb3 tb).mono fun e w2 ⟨he, hb⟩ => ⟨_, he, Pred.ext_below hb hE.size, rfl⟩
      · intro b X hE hd hn hV
        have r5 : b.tmps[5]?.getD undef = .pointer (some ⟨w.heap.size + 1, 0, none⟩) := (hn 5 (by kernel_rfl)).trans rfl
        have r34 : b.tmps[34]?.getD undef = .bool true := hV 14 _ 34 rfl rfl (Pred.waits_near (by kernel_rfl) (by kernel_rfl))
        have q := (blk_below hE _ lB).trans bB
        exact Pred.yields_run (v := .agg #[.int .u8 (a1_0), .int .u8 (a1_1), .int .u8 (a1_2), .int .u8 (a1_3)]) ((Pred.wanted_at (g := 14) (d := 34) (f := true) rfl rfl r34).trans rfl) (by go_simp) ⟨Pred.ext_refl _ _, rfl⟩
      · intro b X hE hd hn hV
        have r37 : b.tmps[37]?.getD undef = .agg #[.int .u8 (a1_0), .int .u8 (a1_1), .int .u8 (a1_2), .int .u8 (a1_3)] := hV 17 _ 37 rfl rfl (Pred.waits_near (by kernel_rfl) (by kernel_rfl))
        have r38 : b.tmps[38]?.getD undef = .agg #[.int .u8 (a1_0), .int .u8 (a1_1), .int .u8 (a1_2), .int .u8 (a1_3)] := hV 18 _ 38 rfl rfl (Pred.waits_near (by kernel_rfl) (by kernel_rfl))
        have r34 : b.tmps[34]?.getD undef = .bool true := hV 14 _ 34 rfl rfl (Pred.waits_near (by kernel_rfl) (by kernel_rfl))
        exact Pred.yields_run (v := .bool true) ((Pred.wanted_at (g := 14) (d := 34) (f := true) rfl rfl r34).trans rfl) (by go_simp) ⟨Pred.ext_refl _ _, rfl⟩
      · intro b X hE hd hn hV
        have r34 : b.tmps[34]?.getD undef = .bool true := hV 14 _ 34 rfl rfl (Pred.waits_near (by kernel_rfl) (by kernel_rfl))
        have r39 : b.tmps[39]?.getD undef = .bool true := hV 19 _ 39 rfl rfl (Pred.waits_near (by kernel_rfl) (by kernel_rfl))
        exact Pred.yields_run (v := .bool true) (Pred.wanted_none rfl) (by go_simp) ⟨Pred.ext_refl _ _, rfl⟩
      · intro b X hE hd hn hV
        have r40 : b.tmps[40]?.getD undef = .bool true := hV 20 _ 40 rfl rfl (Pred.waits_near (by kernel_rfl) (by kernel_rfl))
        exact Pred.yields_run (v := .bool true) (Pred.wanted_none rfl) (by go_simp) ⟨Pred.ext_refl _ _, rfl⟩
      · intro b X hE hd hn hV
        have r4 : b.tmps[4]?.getD undef = .pointer (some ⟨w.heap.size, 0, none⟩) := (hn 4 (by kernel_rfl)).trans rfl
        have r41 : b.tmps[41]?.getD undef = .bool true := hV 21 _ 41 rfl rfl (Pred.waits_near (by kernel_rfl) (by kernel_rfl))
        have q := (blk_below hE _ lA).trans bA
        exact Pred.yields_run (v := .agg #[.int .u8 (a0_0), .int .u8 (a0_1), .int .u8 (a0_2), .int .u8 (a0_3)]) ((Pred.wanted_at (g := 21) (d := 41) (f := true) rfl rfl r41).trans rfl) (by go_simp) ⟨Pred.ext_refl _ _, rfl⟩
      · intro b X hE hd hn hV
        have r9 : b.tmps[9]?.getD undef = .pointer (some ⟨g7, 0, none⟩) := (hn 9 (by kernel_rfl)).trans rfl
        have r41 : b.tmps[41]?.getD undef = .bool true := hV 21 _ 41 rfl rfl (Pred.waits_near (by kernel_rfl) (by kernel_rfl))
        have q := (blk_below hE _ lG).trans bG
        exact Pred.yields_run (v := .agg (gotV (a1_0) (a1_1) (a1_2) (a1_3) false)) ((Pred.wanted_at (g := 21) (d := 41) (f := true) rfl rfl r41).trans rfl) (by go_simp) ⟨Pred.ext_refl _ _, rfl⟩
      · intro b X hE hd hn hV
        have r42 : b.tmps[42]?.getD undef = .agg #[.int .u8 (a0_0), .int .u8 (a0_1), .int .u8 (a0_2), .int .u8 (a0_3)] := hV 22 _ 42 rfl rfl (Pred.waits_near (by kernel_rfl) (by kernel_rfl))
        have r43 : b.tmps[43]?.getD undef = .agg (gotV (a1_0) (a1_1) (a1_2) (a1_3) false) := hV 23 _ 43 rfl rfl (Pred.waits_near (by kernel_rfl) (by kernel_rfl))
        have r41 : b.tmps[41]?.getD undef = .bool true := hV 21 _ 41 rfl rfl (Pred.waits_near (by kernel_rfl) (by kernel_rfl))
        have tb := TW.below hE lW
        refine Pred.yields_call (f := 8) (args := #[.int .i64 3, .agg #[.int .u8 (a0_0), .int .u8 (a0_1), .int .u8 (a0_2), .int .u8 (a0_3)], .agg (gotV (a1_0) (a1_1) (a1_2) (a1_3) false)]) ((Pred.wanted_at (g := 21) (d := 41) (f := true) rfl rfl r41).trans rfl) (by go_simp) ?_
        exact (pixel_3 a0_0 a0_1 a0_2 a0_3 a1_0 a1_1 a1_2 a1_3 false _ pa0 pa1 pa2 pa3 pb0 pb1 pb2 pb3 tb).mono fun e w2 ⟨he, hb⟩ => ⟨_, he, Pred.ext_below hb hE.size, rfl⟩
      · intro b X hE hd hn hV
        have r5 : b.tmps[5]?.getD undef = .pointer (some ⟨w.heap.size + 1, 0, none⟩) := (hn 5 (by kernel_rfl)).trans rfl
        have r41 : b.tmps[41]?.getD undef = .bool true := hV 21 _ 41 rfl rfl (Pred.waits_near (by kernel_rfl) (by kernel_rfl))
        have q := (blk_below hE _ lB).trans bB
        exact Pred.yields_run (v := .agg #[.int .u8 (a1_0), .int .u8 (a1_1), .int .u8 (a1_2), .int .u8 (a1_3)]) ((Pred.wanted_at (g := 21) (d := 41) (f := true) rfl rfl r41).trans rfl) (by go_simp) ⟨Pred.ext_refl _ _, rfl⟩
      · intro b X hE hd hn hV
        have r4 : b.tmps[4]?.getD undef = .pointer (some ⟨w.heap.size, 0, none⟩) := (hn 4 (by kernel_rfl)).trans rfl
        have r41 : b.tmps[41]?.getD undef = .bool true := hV 21 _ 41 rfl rfl (Pred.waits_near (by kernel_rfl) (by kernel_rfl))
        have q := (blk_below hE _ lA).trans bA
        exact Pred.yields_run (v := .agg #[.int .u8 (a0_0), .int .u8 (a0_1), .int .u8 (a0_2), .int .u8 (a0_3)]) ((Pred.wanted_at (g := 21) (d := 41) (f := true) rfl rfl r41).trans rfl) (by go_simp) ⟨Pred.ext_refl _ _, rfl⟩
      · intro b X hE hd hn hV
        have r45 : b.tmps[45]?.getD undef = .agg #[.int .u8 (a1_0), .int .u8 (a1_1), .int .u8 (a1_2), .int .u8 (a1_3)] := hV 25 _ 45 rfl rfl (Pred.waits_near (by kernel_rfl) (by kernel_rfl))
        have r46 : b.tmps[46]?.getD undef = .agg #[.int .u8 (a0_0), .int .u8 (a0_1), .int .u8 (a0_2), .int .u8 (a0_3)] := hV 26 _ 46 rfl rfl (Pred.waits_near (by kernel_rfl) (by kernel_rfl))
        have r41 : b.tmps[41]?.getD undef = .bool true := hV 21 _ 41 rfl rfl (Pred.waits_near (by kernel_rfl) (by kernel_rfl))
        have tb := TW.below hE lW
        refine Pred.yields_call (f := 11) (args := #[.agg #[.int .u8 (a1_0), .int .u8 (a1_1), .int .u8 (a1_2), .int .u8 (a1_3)], .agg #[.int .u8 (a0_0), .int .u8 (a0_1), .int .u8 (a0_2), .int .u8 (a0_3)]]) ((Pred.wanted_at (g := 21) (d := 41) (f := true) rfl rfl r41).trans rfl) (by go_simp) ?_
        exact (rtimes_any a1_0 a1_1 a1_2 a1_3 a0_0 a0_1 a0_2 a0_3 _ pb0 pb1 pb2 pb3 pa0 pa1 pa2 pa3).mono fun e w2 ⟨he, hb⟩ => ⟨_, he, Pred.ext_below hb hE.size, rfl⟩
      · intro b X hE hd hn hV
        have r44 : b.tmps[44]?.getD undef = .agg #[.int .u8 (timesB a1_0 a0_0), .int .u8 (timesB a1_1 a0_1), .int .u8 (timesB a1_2 a0_2), .int .u8 (timesB a1_3 a0_3)] := hV 24 _ 44 rfl rfl (Pred.waits_near (by kernel_rfl) (by kernel_rfl))
        have r47 : b.tmps[47]?.getD undef = .agg #[.int .u8 (timesB a1_0 a0_0), .int .u8 (timesB a1_1 a0_1), .int .u8 (timesB a1_2 a0_2), .int .u8 (timesB a1_3 a0_3)] := hV 27 _ 47 rfl rfl (Pred.waits_near (by kernel_rfl) (by kernel_rfl))
        have r41 : b.tmps[41]?.getD undef = .bool true := hV 21 _ 41 rfl rfl (Pred.waits_near (by kernel_rfl) (by kernel_rfl))
        exact Pred.yields_run (v := .bool true) ((Pred.wanted_at (g := 21) (d := 41) (f := true) rfl rfl r41).trans rfl) (by go_simp) ⟨Pred.ext_refl _ _, rfl⟩
      · intro b X hE hd hn hV
        have r41 : b.tmps[41]?.getD undef = .bool true := hV 21 _ 41 rfl rfl (Pred.waits_near (by kernel_rfl) (by kernel_rfl))
        have r48 : b.tmps[48]?.getD undef = .bool true := hV 28 _ 48 rfl rfl (Pred.waits_near (by kernel_rfl) (by kernel_rfl))
        exact Pred.yields_run (v := .bool true) (Pred.wanted_none rfl) (by go_simp) ⟨Pred.ext_refl _ _, rfl⟩
      · intro b X hE hd hn hV
        have r49 : b.tmps[49]?.getD undef = .bool true := hV 29 _ 49 rfl rfl (Pred.waits_near (by kernel_rfl) (by kernel_rfl))
        exact Pred.yields_run (v := .bool true) (Pred.wanted_none rfl) (by go_simp) ⟨Pred.ext_refl _ _, rfl⟩
      · intro b X hE hd hn hV
        have r4 : b.tmps[4]?.getD undef = .pointer (some ⟨w.heap.size, 0, none⟩) := (hn 4 (by kernel_rfl)).trans rfl
        have r50 : b.tmps[50]?.getD undef = .bool true := hV 30 _ 50 rfl rfl (Pred.waits_near (by kernel_rfl) (by kernel_rfl))
        have q := (blk_below hE _ lA).trans bA
        exact Pred.yields_run (v := .agg #[.int .u8 (a0_0), .int .u8 (a0_1), .int .u8 (a0_2), .int .u8 (a0_3)]) ((Pred.wanted_at (g := 30) (d := 50) (f := true) rfl rfl r50).trans rfl) (by go_simp) ⟨Pred.ext_refl _ _, rfl⟩
      · intro b X hE hd hn hV
        have r9 : b.tmps[9]?.getD undef = .pointer (some ⟨g7, 0, none⟩) := (hn 9 (by kernel_rfl)).trans rfl
        have r50 : b.tmps[50]?.getD undef = .bool true := hV 30 _ 50 rfl rfl (Pred.waits_near (by kernel_rfl) (by kernel_rfl))
        have q := (blk_below hE _ lG).trans bG
        exact Pred.yields_run (v := .agg (gotV (a1_0) (a1_1) (a1_2) (a1_3) false)) ((Pred.wanted_at (g := 30) (d := 50) (f := true) rfl rfl r50).trans rfl) (by go_simp) ⟨Pred.ext_refl _ _, rfl⟩
      · intro b X hE hd hn hV
        have r51 : b.tmps[51]?.getD undef = .agg #[.int .u8 (a0_0), .int .u8 (a0_1), .int .u8 (a0_2), .int .u8 (a0_3)] := hV 31 _ 51 rfl rfl (Pred.waits_near (by kernel_rfl) (by kernel_rfl))
        have r52 : b.tmps[52]?.getD undef = .agg (gotV (a1_0) (a1_1) (a1_2) (a1_3) false) := hV 32 _ 52 rfl rfl (Pred.waits_near (by kernel_rfl) (by kernel_rfl))
        have r50 : b.tmps[50]?.getD undef = .bool true := hV 30 _ 50 rfl rfl (Pred.waits_near (by kernel_rfl) (by kernel_rfl))
        have tb := TW.below hE lW
        refine Pred.yields_call (f := 8) (args := #[.int .i64 4, .agg #[.int .u8 (a0_0), .int .u8 (a0_1), .int .u8 (a0_2), .int .u8 (a0_3)], .agg (gotV (a1_0) (a1_1) (a1_2) (a1_3) false)]) ((Pred.wanted_at (g := 30) (d := 50) (f := true) rfl rfl r50).trans rfl) (by go_simp) ?_
        exact (pixel_4f a0_0 a0_1 a0_2 a0_3 a1_0 a1_1 a1_2 a1_3 _ pa0 pa1 pa2 pa3 pb0 pb1 pb2 pb3 tb).mono fun e w2 ⟨he, hb⟩ => ⟨_, he, Pred.ext_below hb hE.size, rfl⟩
      · intro b X hE hd hn hV
        have r11 : b.tmps[11]?.getD undef = .pointer (some ⟨XA.heap.size, 0, none⟩) := (hn 11 (by kernel_rfl)).trans rfl
        have r50 : b.tmps[50]?.getD undef = .bool true := hV 30 _ 50 rfl rfl (Pred.waits_near (by kernel_rfl) (by kernel_rfl))
        have q := (blk_below hE _ lWh).trans bW
        exact Pred.yields_run (v := .agg #[.int .u8 (255), .int .u8 (255), .int .u8 (255), .int .u8 (255)]) ((Pred.wanted_at (g := 30) (d := 50) (f := true) rfl rfl r50).trans rfl) (by go_simp) ⟨Pred.ext_refl _ _, rfl⟩
      · intro b X hE hd hn hV
        have r53 : b.tmps[53]?.getD undef = .agg #[.int .u8 (a0_0), .int .u8 (a0_1), .int .u8 (a0_2), .int .u8 (a0_3)] := hV 33 _ 53 rfl rfl (Pred.waits_near (by kernel_rfl) (by kernel_rfl))
        have r54 : b.tmps[54]?.getD undef = .agg #[.int .u8 (255), .int .u8 (255), .int .u8 (255), .int .u8 (255)] := hV 34 _ 54 rfl rfl (Pred.waits_near (by kernel_rfl) (by kernel_rfl))
        have r50 : b.tmps[50]?.getD undef = .bool true := hV 30 _ 50 rfl rfl (Pred.waits_near (by kernel_rfl) (by kernel_rfl))
        exact Pred.yields_run (v := .bool (isW a0_0 a0_1 a0_2 a0_3)) ((Pred.wanted_at (g := 30) (d := 50) (f := true) rfl rfl r50).trans rfl) (by go_simp; rfl) ⟨Pred.ext_refl _ _, rfl⟩
      · intro b X hE hd hn hV
        have r3 : b.tmps[3]?.getD undef = .bool false := (hn 3 (by kernel_rfl)).trans rfl
        have r50 : b.tmps[50]?.getD undef = .bool true := hV 30 _ 50 rfl rfl (Pred.waits_near (by kernel_rfl) (by kernel_rfl))
        exact Pred.yields_run (v := .bool false) ((Pred.wanted_at (g := 30) (d := 50) (f := true) rfl rfl r50).trans rfl) (by go_simp) ⟨Pred.ext_refl _ _, rfl⟩
      · intro b X hE hd hn hV
        have r56 : b.tmps[56]?.getD undef = .bool false := hV 36 _ 56 rfl rfl (Pred.waits_near (by kernel_rfl) (by kernel_rfl))
        have r50 : b.tmps[50]?.getD undef = .bool true := hV 30 _ 50 rfl rfl (Pred.waits_near (by kernel_rfl) (by kernel_rfl))
        exact Pred.yields_run (v := .bool false) ((Pred.wanted_at (g := 30) (d := 50) (f := true) rfl rfl r50).trans rfl) (by go_simp) ⟨Pred.ext_refl _ _, rfl⟩
      · intro b X hE hd hn hV
        have r4 : b.tmps[4]?.getD undef = .pointer (some ⟨w.heap.size, 0, none⟩) := (hn 4 (by kernel_rfl)).trans rfl
        have r57 : b.tmps[57]?.getD undef = .bool false := hV 37 _ 57 rfl rfl (Pred.waits_near (by kernel_rfl) (by kernel_rfl))
        have q := (blk_below hE _ lA).trans bA
        exact Pred.yields_run (v := .agg #[.int .u8 (a0_0), .int .u8 (a0_1), .int .u8 (a0_2), .int .u8 (a0_3)]) ((Pred.wanted_at (g := 37) (d := 57) (f := false) rfl rfl r57).trans rfl) (by go_simp) ⟨Pred.ext_refl _ _, rfl⟩
      · intro b X hE hd hn hV
        have r11 : b.tmps[11]?.getD undef = .pointer (some ⟨XA.heap.size, 0, none⟩) := (hn 11 (by kernel_rfl)).trans rfl
        have r57 : b.tmps[57]?.getD undef = .bool false := hV 37 _ 57 rfl rfl (Pred.waits_near (by kernel_rfl) (by kernel_rfl))
        have q := (blk_below hE _ lWh).trans bW
        exact Pred.yields_run (v := .agg #[.int .u8 (255), .int .u8 (255), .int .u8 (255), .int .u8 (255)]) ((Pred.wanted_at (g := 37) (d := 57) (f := false) rfl rfl r57).trans rfl) (by go_simp) ⟨Pred.ext_refl _ _, rfl⟩
      · intro b X hE hd hn hV
        have r58 : b.tmps[58]?.getD undef = .agg #[.int .u8 (a0_0), .int .u8 (a0_1), .int .u8 (a0_2), .int .u8 (a0_3)] := hV 38 _ 58 rfl rfl (Pred.waits_near (by kernel_rfl) (by kernel_rfl))
        have r59 : b.tmps[59]?.getD undef = .agg #[.int .u8 (255), .int .u8 (255), .int .u8 (255), .int .u8 (255)] := hV 39 _ 59 rfl rfl (Pred.waits_near (by kernel_rfl) (by kernel_rfl))
        have r57 : b.tmps[57]?.getD undef = .bool false := hV 37 _ 57 rfl rfl (Pred.waits_near (by kernel_rfl) (by kernel_rfl))
        exact Pred.yields_run (v := .bool (isW a0_0 a0_1 a0_2 a0_3)) ((Pred.wanted_at (g := 37) (d := 57) (f := false) rfl rfl r57).trans rfl) (by go_simp; rfl) ⟨Pred.ext_refl _ _, rfl⟩
      · intro b X hE hd hn hV
        have r57 : b.tmps[57]?.getD undef = .bool false := hV 37 _ 57 rfl rfl (Pred.waits_near (by kernel_rfl) (by kernel_rfl))
        have r60 : b.tmps[60]?.getD undef = .bool (isW a0_0 a0_1 a0_2 a0_3) := hV 40 _ 60 rfl rfl (Pred.waits_near (by kernel_rfl) (by kernel_rfl))
        have r50 : b.tmps[50]?.getD undef = .bool true := hV 30 _ 50 rfl rfl (Pred.waits_near (by kernel_rfl) (by kernel_rfl))
        exact Pred.yields_run (v := .bool (isW a0_0 a0_1 a0_2 a0_3)) ((Pred.wanted_at (g := 30) (d := 50) (f := true) rfl rfl r50).trans rfl) (by go_simp) ⟨Pred.ext_refl _ _, rfl⟩
      · intro b X hE hd hn hV
        have r55 : b.tmps[55]?.getD undef = .bool (isW a0_0 a0_1 a0_2 a0_3) := hV 35 _ 55 rfl rfl (Pred.waits_near (by kernel_rfl) (by kernel_rfl))
        have r61 : b.tmps[61]?.getD undef = .bool (isW a0_0 a0_1 a0_2 a0_3) := hV 41 _ 61 rfl rfl (Pred.waits_near (by kernel_rfl) (by kernel_rfl))
        have r50 : b.tmps[50]?.getD undef = .bool true := hV 30 _ 50 rfl rfl (Pred.waits_near (by kernel_rfl) (by kernel_rfl))
        exact Pred.yields_run (v := .bool true) ((Pred.wanted_at (g := 30) (d := 50) (f := true) rfl rfl r50).trans rfl) (by go_simp) ⟨Pred.ext_refl _ _, rfl⟩
      · intro b X hE hd hn hV
        have r50 : b.tmps[50]?.getD undef = .bool true := hV 30 _ 50 rfl rfl (Pred.waits_near (by kernel_rfl) (by kernel_rfl))
        have r62 : b.tmps[62]?.getD undef = .bool true := hV 42 _ 62 rfl rfl (Pred.waits_near (by kernel_rfl) (by kernel_rfl))
        exact Pred.yields_run (v := .bool true) (Pred.wanted_none rfl) (by go_simp) ⟨Pred.ext_refl _ _, rfl⟩
      · intro b X hE hd hn hV
        have r63 : b.tmps[63]?.getD undef = .bool true := hV 43 _ 63 rfl rfl (Pred.waits_near (by kernel_rfl) (by kernel_rfl))
        exact Pred.yields_run (v := .bool true) (Pred.wanted_none rfl) (by go_simp) ⟨Pred.ext_refl _ _, rfl⟩
      · intro b X hE hd hn hV
        have r4 : b.tmps[4]?.getD undef = .pointer (some ⟨w.heap.size, 0, none⟩) := (hn 4 (by kernel_rfl)).trans rfl
        have r64 : b.tmps[64]?.getD undef = .bool true := hV 44 _ 64 rfl rfl (Pred.waits_near (by kernel_rfl) (by kernel_rfl))
        have q := (blk_below hE _ lA).trans bA
        exact Pred.yields_run (v := .agg #[.int .u8 (a0_0), .int .u8 (a0_1), .int .u8 (a0_2), .int .u8 (a0_3)]) ((Pred.wanted_at (g := 44) (d := 64) (f := true) rfl rfl r64).trans rfl) (by go_simp) ⟨Pred.ext_refl _ _, rfl⟩
      · intro b X hE hd hn hV
        have r9 : b.tmps[9]?.getD undef = .pointer (some ⟨g7, 0, none⟩) := (hn 9 (by kernel_rfl)).trans rfl
        have r64 : b.tmps[64]?.getD undef = .bool true := hV 44 _ 64 rfl rfl (Pred.waits_near (by kernel_rfl) (by kernel_rfl))
        have q := (blk_below hE _ lG).trans bG
        exact Pred.yields_run (v := .agg (gotV (a1_0) (a1_1) (a1_2) (a1_3) false)) ((Pred.wanted_at (g := 44) (d := 64) (f := true) rfl rfl r64).trans rfl) (by go_simp) ⟨Pred.ext_refl _ _, rfl⟩
      · intro b X hE hd hn hV
        have r65 : b.tmps[65]?.getD undef = .agg #[.int .u8 (a0_0), .int .u8 (a0_1), .int .u8 (a0_2), .int .u8 (a0_3)] := hV 45 _ 65 rfl rfl (Pred.waits_near (by kernel_rfl) (by kernel_rfl))
        have r66 : b.tmps[66]?.getD undef = .agg (gotV (a1_0) (a1_1) (a1_2) (a1_3) false) := hV 46 _ 66 rfl rfl (Pred.waits_near (by kernel_rfl) (by kernel_rfl))
        have r64 : b.tmps[64]?.getD undef = .bool true := hV 44 _ 64 rfl rfl (Pred.waits_near (by kernel_rfl) (by kernel_rfl))
        have tb := TW.below hE lW
        refine Pred.yields_call (f := 8) (args := #[.int .i64 9, .agg #[.int .u8 (a0_0), .int .u8 (a0_1), .int .u8 (a0_2), .int .u8 (a0_3)], .agg (gotV (a1_0) (a1_1) (a1_2) (a1_3) false)]) ((Pred.wanted_at (g := 44) (d := 64) (f := true) rfl rfl r64).trans rfl) (by go_simp) ?_
        exact (pixel_no 9 a0_0 a0_1 a0_2 a0_3 a1_0 a1_1 a1_2 a1_3 false _ (by decide)).mono fun e w2 ⟨he, hb⟩ => ⟨_, he, Pred.ext_below hb hE.size, rfl⟩
      · intro b X hE hd hn hV
        have r64 : b.tmps[64]?.getD undef = .bool true := hV 44 _ 64 rfl rfl (Pred.waits_near (by kernel_rfl) (by kernel_rfl))
        exact Pred.yields_run (v := .agg #[.int .u8 (0), .int .u8 (0), .int .u8 (0), .int .u8 (0)]) ((Pred.wanted_at (g := 44) (d := 64) (f := true) rfl rfl r64).trans rfl) (by first | (go_simp; done) | (go_simp; rfl)) ⟨Pred.ext_refl _ _, rfl⟩
      · intro b X hE hd hn hV
        have r67 : b.tmps[67]?.getD undef = .agg #[.int .u8 (0), .int .u8 (0), .int .u8 (0), .int .u8 (0)] := hV 47 _ 67 rfl rfl (Pred.waits_near (by kernel_rfl) (by kernel_rfl))
        have r68 : b.tmps[68]?.getD undef = .agg #[.int .u8 (0), .int .u8 (0), .int .u8 (0), .int .u8 (0)] := hV 48 _ 68 rfl rfl (Pred.waits_near (by kernel_rfl) (by kernel_rfl))
        have r64 : b.tmps[64]?.getD undef = .bool true := hV 44 _ 64 rfl rfl (Pred.waits_near (by kernel_rfl) (by kernel_rfl))
        exact Pred.yields_run (v := .bool true) ((Pred.wanted_at (g := 44) (d := 64) (f := true) rfl rfl r64).trans rfl) (by go_simp) ⟨Pred.ext_refl _ _, rfl⟩
      · intro b X hE hd hn hV
        have r64 : b.tmps[64]?.getD undef = .bool true := hV 44 _ 64 rfl rfl (Pred.waits_near (by kernel_rfl) (by kernel_rfl))
        have r69 : b.tmps[69]?.getD undef = .bool true := hV 49 _ 69 rfl rfl (Pred.waits_near (by kernel_rfl) (by kernel_rfl))
        exact Pred.yields_run (v := .bool true) (Pred.wanted_none rfl) (by go_simp) ⟨Pred.ext_refl _ _, rfl⟩
      · intro b X hE hd hn hV
        have r70 : b.tmps[70]?.getD undef = .bool true := hV 50 _ 70 rfl rfl (Pred.waits_near (by kernel_rfl) (by kernel_rfl))
        exact Pred.yields_run (v := .bool true) (Pred.wanted_none rfl) (by go_simp) ⟨Pred.ext_refl _ _, rfl⟩
      · intro b X hE hd hn hV
        have r71 : b.tmps[71]?.getD undef = .bool true := hV 51 _ 71 rfl rfl (Pred.waits_near (by kernel_rfl) (by kernel_rfl))
        have tb := TW.below hE lW
        refine Pred.yields_call (f := 10) (args := #[]) ((Pred.wanted_at (g := 51) (d := 71) (f := true) rfl rfl r71).trans rfl) (by go_simp) ?_
        exact (awake_any _ tb).mono fun e w2 ⟨he, hb⟩ => ⟨_, he, Pred.ext_below hb hE.size, rfl⟩
      · intro b X hE hd hn hV
        have r71 : b.tmps[71]?.getD undef = .bool true := hV 51 _ 71 rfl rfl (Pred.waits_near (by kernel_rfl) (by kernel_rfl))
        have r72 : b.tmps[72]?.getD undef = .bool true := hV 52 _ 72 rfl rfl (Pred.waits_near (by kernel_rfl) (by kernel_rfl))
        exact Pred.yields_run (v := .bool true) (Pred.wanted_none rfl) (by go_simp) ⟨Pred.ext_refl _ _, rfl⟩
      · intro b X hE hd hn hV
        have r73 : b.tmps[73]?.getD undef = .bool true := hV 53 _ 73 rfl rfl (Pred.waits_near (by kernel_rfl) (by kernel_rfl))
        exact Pred.yields_run (v := .bool true) (Pred.wanted_none rfl) (by go_simp) ⟨Pred.ext_refl _ _, rfl⟩
    intro v X hE hv
    have e0 : v 0 = .agg #[.int .u8 (a0_0), .int .u8 (a0_1), .int .u8 (a0_2), .int .u8 (a0_3)] := hv 0 _ 20 rfl rfl
    have e1 : v 1 = .agg (gotV (a1_0) (a1_1) (a1_2) (a1_3) false) := hv 1 _ 21 rfl rfl
    have e2 : v 2 = .agg #[.int .u8 (a0_0), .int .u8 (a0_1), .int .u8 (a0_2), .int .u8 (a0_3)] := hv 2 _ 22 rfl rfl
    have e3 : v 3 = .agg #[.int .u8 (a0_0), .int .u8 (a0_1), .int .u8 (a0_2), .int .u8 (a0_3)] := hv 3 _ 23 rfl rfl
    have e4 : v 4 = .agg (gotV (a2_0) (a2_1) (a2_2) (a2_3) true) := hv 4 _ 24 rfl rfl
    have e5 : v 5 = .agg #[.int .u8 (a0_0), .int .u8 (a0_1), .int .u8 (a0_2), .int .u8 (a0_3)] := hv 5 _ 25 rfl rfl
    have e6 : v 6 = .bool true := hv 6 _ 26 rfl rfl
    have e7 : v 7 = .bool true := hv 7 _ 27 rfl rfl
    have e8 : v 8 = .agg #[.int .u8 (a0_0), .int .u8 (a0_1), .int .u8 (a0_2), .int .u8 (a0_3)] := hv 8 _ 28 rfl rfl
    have e9 : v 9 = .agg (gotV (a1_0) (a1_1) (a1_2) (a1_3) false) := hv 9 _ 29 rfl rfl
    have e10 : v 10 = .agg #[.int .u8 (a1_0), .int .u8 (a1_1), .int .u8 (a1_2), .int .u8 (a1_3)] := hv 10 _ 30 rfl rfl
    have e11 : v 11 = .agg #[.int .u8 (a1_0), .int .u8 (a1_1), .int .u8 (a1_2), .int .u8 (a1_3)] := hv 11 _ 31 rfl rfl
    have e12 : v 12 = .bool true := hv 12 _ 32 rfl rfl
    have e13 : v 13 = .bool true := hv 13 _ 33 rfl rfl
    have e14 : v 14 = .bool true := hv 14 _ 34 rfl rfl
    have e15 : v 15 = .agg #[.int .u8 (255), .int .u8 (255), .int .u8 (255), .int .u8 (255)] := hv 15 _ 35 rfl rfl
    have e16 : v 16 = .agg (gotV (a1_0) (a1_1) (a1_2) (a1_3) false) := hv 16 _ 36 rfl rfl
    have e17 : v 17 = .agg #[.int .u8 (a1_0), .int .u8 (a1_1), .int .u8 (a1_2), .int .u8 (a1_3)] := hv 17 _ 37 rfl rfl
    have e18 : v 18 = .agg #[.int .u8 (a1_0), .int .u8 (a1_1), .int .u8 (a1_2), .int .u8 (a1_3)] := hv 18 _ 38 rfl rfl
    have e19 : v 19 = .bool true := hv 19 _ 39 rfl rfl
    have e20 : v 20 = .bool true := hv 20 _ 40 rfl rfl
    have e21 : v 21 = .bool true := hv 21 _ 41 rfl rfl
    have e22 : v 22 = .agg #[.int .u8 (a0_0), .int .u8 (a0_1), .int .u8 (a0_2), .int .u8 (a0_3)] := hv 22 _ 42 rfl rfl
    have e23 : v 23 = .agg (gotV (a1_0) (a1_1) (a1_2) (a1_3) false) := hv 23 _ 43 rfl rfl
    have e24 : v 24 = .agg #[.int .u8 (timesB a1_0 a0_0), .int .u8 (timesB a1_1 a0_1), .int .u8 (timesB a1_2 a0_2), .int .u8 (timesB a1_3 a0_3)] := hv 24 _ 44 rfl rfl
    have e25 : v 25 = .agg #[.int .u8 (a1_0), .int .u8 (a1_1), .int .u8 (a1_2), .int .u8 (a1_3)] := hv 25 _ 45 rfl rfl
    have e26 : v 26 = .agg #[.int .u8 (a0_0), .int .u8 (a0_1), .int .u8 (a0_2), .int .u8 (a0_3)] := hv 26 _ 46 rfl rfl
    have e27 : v 27 = .agg #[.int .u8 (timesB a1_0 a0_0), .int .u8 (timesB a1_1 a0_1), .int .u8 (timesB a1_2 a0_2), .int .u8 (timesB a1_3 a0_3)] := hv 27 _ 47 rfl rfl
    have e28 : v 28 = .bool true := hv 28 _ 48 rfl rfl
    have e29 : v 29 = .bool true := hv 29 _ 49 rfl rfl
    have e30 : v 30 = .bool true := hv 30 _ 50 rfl rfl
    have e31 : v 31 = .agg #[.int .u8 (a0_0), .int .u8 (a0_1), .int .u8 (a0_2), .int .u8 (a0_3)] := hv 31 _ 51 rfl rfl
    have e32 : v 32 = .agg (gotV (a1_0) (a1_1) (a1_2) (a1_3) false) := hv 32 _ 52 rfl rfl
    have e33 : v 33 = .agg #[.int .u8 (a0_0), .int .u8 (a0_1), .int .u8 (a0_2), .int .u8 (a0_3)] := hv 33 _ 53 rfl rfl
    have e34 : v 34 = .agg #[.int .u8 (255), .int .u8 (255), .int .u8 (255), .int .u8 (255)] := hv 34 _ 54 rfl rfl
    have e35 : v 35 = .bool (isW a0_0 a0_1 a0_2 a0_3) := hv 35 _ 55 rfl rfl
    have e36 : v 36 = .bool false := hv 36 _ 56 rfl rfl
    have e37 : v 37 = .bool false := hv 37 _ 57 rfl rfl
    have e38 : v 38 = .agg #[.int .u8 (a0_0), .int .u8 (a0_1), .int .u8 (a0_2), .int .u8 (a0_3)] := hv 38 _ 58 rfl rfl
    have e39 : v 39 = .agg #[.int .u8 (255), .int .u8 (255), .int .u8 (255), .int .u8 (255)] := hv 39 _ 59 rfl rfl
    have e40 : v 40 = .bool (isW a0_0 a0_1 a0_2 a0_3) := hv 40 _ 60 rfl rfl
    have e41 : v 41 = .bool (isW a0_0 a0_1 a0_2 a0_3) := hv 41 _ 61 rfl rfl
    have e42 : v 42 = .bool true := hv 42 _ 62 rfl rfl
    have e43 : v 43 = .bool true := hv 43 _ 63 rfl rfl
    have e44 : v 44 = .bool true := hv 44 _ 64 rfl rfl
    have e45 : v 45 = .agg #[.int .u8 (a0_0), .int .u8 (a0_1), .int .u8 (a0_2), .int .u8 (a0_3)] := hv 45 _ 65 rfl rfl
    have e46 : v 46 = .agg (gotV (a1_0) (a1_1) (a1_2) (a1_3) false) := hv 46 _ 66 rfl rfl
    have e47 : v 47 = .agg #[.int .u8 (0), .int .u8 (0), .int .u8 (0), .int .u8 (0)] := hv 47 _ 67 rfl rfl
    have e48 : v 48 = .agg #[.int .u8 (0), .int .u8 (0), .int .u8 (0), .int .u8 (0)] := hv 48 _ 68 rfl rfl
    have e49 : v 49 = .bool true := hv 49 _ 69 rfl rfl
    have e50 : v 50 = .bool true := hv 50 _ 70 rfl rfl
    have e51 : v 51 = .bool true := hv 51 _ 71 rfl rfl
    have e52 : v 52 = .bool true := hv 52 _ 72 rfl rfl
    have e53 : v 53 = .bool true := hv 53 _ 73 rfl rfl
    have e54 : v 54 = .bool true := hv 54 _ 8 rfl rfl
    simp only [Pred.putsF_cons, Pred.putsF_nil, Nat.zero_add, Nat.reduceAdd, e0, e1, e2, e3, e4, e5, e6, e7, e8, e9, e10, e11, e12, e13, e14, e15, e16, e17, e18, e19, e20, e21, e22, e23, e24, e25, e26, e27, e28, e29, e30, e31, e32, e33, e34, e35, e36, e37, e38, e39, e40, e41, e42, e43, e44, e45, e46, e47, e48, e49, e50, e51, e52, e53, e54, Act.put, List.setIfInBounds_toArray, List.set_cons_zero, List.set_cons_succ]
    clear e0 e1 e2 e3 e4 e5 e6 e7 e8 e9 e10 e11 e12 e13 e14 e15 e16 e17 e18 e19 e20 e21 e22 e23 e24 e25 e26 e27 e28 e29 e30 e31 e32 e33 e34 e35 e36 e37 e38 e39 e40 e41 e42 e43 e44 e45 e46 e47 e48 e49 e50 e51 e52 e53 e54 hv
    have sX2 := hE.size
    have L4 : Below w.heap.size w X := L3.trans (hE.mono L3.size)
    go_wp2
    go_ret
    exact ⟨rfl, L4⟩
  · go_enter Tryd.func4, Tryd.ntmps4
    go_upto_region 1 with (fail)
    refine Rd.name_world ?_
    intro W hW
    have bA : blk W w.heap.size = some (.cells #[.int .u8 (a0_0), .int .u8 (a0_1), .int .u8 (a0_2), .int .u8 (a0_3)] 23 (0, 0)) := by rw [hW]; exact blk3_0 w _ _ _
    have bB : blk W (w.heap.size + 1) = some (.cells #[.int .u8 (a1_0), .int .u8 (a1_1), .int .u8 (a1_2), .int .u8 (a1_3)] 23 (0, 0)) := by rw [hW]; exact blk3_1 w _ _ _
    have bC : blk W (w.heap.size + 1 + 1) = some (.cells #[.int .u8 (a2_0), .int .u8 (a2_1), .int .u8 (a2_2), .int .u8 (a2_3)] 23 (0, 0)) := by rw [hW]; exact blk3_2 w _ _ _
    have L1 : Below w.heap.size w W := by rw [hW]; repeat' (first | (with_reducible exact Below.refl _ _) | (with_reducible refine Rd.below_step ?_ (by assumption)) | (with_reducible refine Rd.below_alloc ?_ _) | (with_reducible refine Rd.below_drewN ?_ _) | (with_reducible refine Below.drew ?_) | (with_reducible refine Below.setCell ?_ ?_ _) | (with_reducible refine Rd.below_setRow ?_ ?_ _) | go_size | (simp only [World.size_alloc]; omega) | omega)
    have lA := blk_lt bA
    have lB := blk_lt bB
    have lC := blk_lt bC
    clear hW
    refine PredS.region_vals (W := W) [⟨7, 9, 26, (gotV 0 0 0 0 false), (gotV a1_0 a1_1 a1_2 a1_3 true)⟩, ⟨8, 10, 26, (gotV 0 0 0 0 false), (gotV a2_0 a2_1 a2_2 a2_3 false)⟩] (PredS.Of [
        PredS.Is (.agg #[.int .u8 (a1_0), .int .u8 (a1_1), .int .u8 (a1_2), .int .u8 (a1_3)]),
        PredS.Is (.bool true),
        PredS.Is (.agg (gotV (a1_0) (a1_1) (a1_2) (a1_3) true)),
        PredS.Is (.agg #[.int .u8 (a2_0), .int .u8 (a2_1), .int .u8 (a2_2), .int .u8 (a2_3)]),
        PredS.Is (.bool true),
        PredS.Is (.bool false),
        PredS.Is (.agg (gotV (a2_0) (a2_1) (a2_2) (a2_3) false)),
        PredS.Is undef,
        PredS.Is undef,
        PredS.Is undef,
        PredS.Is undef]) (by kernel_rfl) (by kernel_rfl) (by kernel_rfl) (by kernel_rfl) (PredS.of_stab ?_) ?_ ?_ ?_
    · exact ⟨PredS.is_stab _, PredS.is_stab _, PredS.is_stab _, PredS.is_stab _, PredS.is_stab _, PredS.is_stab _, PredS.is_stab _, PredS.is_stab _, PredS.is_stab _, PredS.is_stab _, PredS.is_stab _, trivial⟩
    · refine ⟨.inr ?_, .inr ?_, .inr ?_, .inr ?_, .inr ?_, .inr ?_, .inr ?_, .inl rfl, .inl rfl, .inl rfl, .inl rfl, trivial⟩
      · intro b X hE hd hn hV
        have r5 : b.tmps[5]?.getD undef = .pointer (some ⟨w.heap.size + 1, 0, none⟩) := (hn 5 (by kernel_rfl)).trans rfl
        have q := (blk_below hE _ lB).trans bB
        exact Pred.yields_run (v := .agg #[.int .u8 (a1_0), .int .u8 (a1_1), .int .u8 (a1_2), .int .u8 (a1_3)]) (Pred.wanted_none rfl) (by go_simp) ⟨PredS.ext_refl _ _ _, rfl⟩
      · intro b X hE hd hn hV
        have r3 : b.tmps[3]?.getD undef = .bool true := (hn 3 (by kernel_rfl)).trans rfl
        exact Pred.yields_run (v := .bool true) (Pred.wanted_none rfl) (by go_simp) ⟨PredS.ext_refl _ _ _, rfl⟩
      · intro b X hE hd hn hV
        have r12 : b.tmps[12]?.getD undef = .agg #[.int .u8 (a1_0), .int .u8 (a1_1), .int .u8 (a1_2), .int .u8 (a1_3)] := hV 0 _ 12 rfl rfl rfl (Pred.waits_near (by kernel_rfl) (by kernel_rfl))
        have r13 : b.tmps[13]?.getD undef = .bool true := hV 1 _ 13 rfl rfl rfl (Pred.waits_near (by kernel_rfl) (by kernel_rfl))
        exact Pred.yields_run (v := .agg (gotV (a1_0) (a1_1) (a1_2) (a1_3) true)) (Pred.wanted_none rfl) (by first | (go_simp; done) | (go_simp; rfl)) ⟨PredS.ext_refl _ _ _, rfl⟩
      · intro b X hE hd hn hV
        have r6 : b.tmps[6]?.getD undef = .pointer (some ⟨w.heap.size + 1 + 1, 0, none⟩) := (hn 6 (by kernel_rfl)).trans rfl
        have q := (blk_below hE _ lC).trans bC
        exact Pred.yields_run (v := .agg #[.int .u8 (a2_0), .int .u8 (a2_1), .int .u8 (a2_2), .int .u8 (a2_3)]) (Pred.wanted_none rfl) (by go_simp) ⟨PredS.ext_refl _ _ _, rfl⟩
      · intro b X hE hd hn hV
        have r3 : b.tmps[3]?.getD undef = .bool true := (hn 3 (by kernel_rfl)).trans rfl
        exact Pred.yields_run (v := .bool true) (Pred.wanted_none rfl) (by go_simp) ⟨PredS.ext_refl _ _ _, rfl⟩
      · intro b X hE hd hn hV
        have r16 : b.tmps[16]?.getD undef = .bool true := hV 4 _ 16 rfl rfl rfl (Pred.waits_near (by kernel_rfl) (by kernel_rfl))
        exact Pred.yields_run (v := .bool false) (Pred.wanted_none rfl) (by go_simp) ⟨PredS.ext_refl _ _ _, rfl⟩
      · intro b X hE hd hn hV
        have r15 : b.tmps[15]?.getD undef = .agg #[.int .u8 (a2_0), .int .u8 (a2_1), .int .u8 (a2_2), .int .u8 (a2_3)] := hV 3 _ 15 rfl rfl rfl (Pred.waits_near (by kernel_rfl) (by kernel_rfl))
        have r17 : b.tmps[17]?.getD undef = .bool false := hV 5 _ 17 rfl rfl rfl (Pred.waits_near (by kernel_rfl) (by kernel_rfl))
        exact Pred.yields_run (v := .agg (gotV (a2_0) (a2_1) (a2_2) (a2_3) false)) (Pred.wanted_none rfl) (by first | (go_simp; done) | (go_simp; rfl)) ⟨PredS.ext_refl _ _ _, rfl⟩
    · refine ⟨?_, ?_, trivial⟩
      · refine ⟨_, 9, _, rfl, rfl, by simp, rfl, fun ρ w => by first | (go_simp; done) | (go_simp; rfl), rfl, rfl, Pred.waits_near (by kernel_rfl) (by kernel_rfl), fun b X g hE hn hV hp hg hb => ?_⟩
        have r14 : b.tmps[14]?.getD undef = .agg (gotV (a1_0) (a1_1) (a1_2) (a1_3) true) := hV 2 _ 14 rfl rfl rfl (Pred.waits_near (by kernel_rfl) (by kernel_rfl))
        simp only at hb
        exact PredS.yields_skip (Pred.wanted_none rfl) (by go_simp) rfl
      · refine ⟨_, 10, _, rfl, rfl, by simp, rfl, fun ρ w => by first | (go_simp; done) | (go_simp; rfl), rfl, rfl, Pred.waits_near (by kernel_rfl) (by kernel_rfl), fun b X g hE hn hV hp hg hb => ?_⟩
        have r18 : b.tmps[18]?.getD undef = .agg (gotV (a2_0) (a2_1) (a2_2) (a2_3) false) := hV 6 _ 18 rfl rfl rfl (Pred.waits_near (by kernel_rfl) (by kernel_rfl))
        simp only at hb
        exact PredS.yields_skip (Pred.wanted_none rfl) (by go_simp) rfl
    intro v XA hE hv hL
    have e0 : v 0 = .agg #[.int .u8 (a1_0), .int .u8 (a1_1), .int .u8 (a1_2), .int .u8 (a1_3)] := hv 0 _ 12 rfl rfl rfl
    have e1 : v 1 = .bool true := hv 1 _ 13 rfl rfl rfl
    have e2 : v 2 = .agg (gotV (a1_0) (a1_1) (a1_2) (a1_3) true) := hv 2 _ 14 rfl rfl rfl
    have e3 : v 3 = .agg #[.int .u8 (a2_0), .int .u8 (a2_1), .int .u8 (a2_2), .int .u8 (a2_3)] := hv 3 _ 15 rfl rfl rfl
    have e4 : v 4 = .bool true := hv 4 _ 16 rfl rfl rfl
    have e5 : v 5 = .bool false := hv 5 _ 17 rfl rfl rfl
    have e6 : v 6 = .agg (gotV (a2_0) (a2_1) (a2_2) (a2_3) false) := hv 6 _ 18 rfl rfl rfl
    obtain ⟨⟨g7, e7, o7, q7, n7⟩, ⟨⟨g8, e8, o8, q8, n8⟩, -⟩⟩ := hL
    replace q7 : blk XA g7 = some (.cells (gotV a1_0 a1_1 a1_2 a1_3 true) 26 (0, 0)) := q7
    have d8_7 : g8 ≠ g7 := fun e => n7 _ (by simp) (e8.trans (by rw [e]))
    replace q8 : blk XA g8 = some (.cells (gotV a2_0 a2_1 a2_2 a2_3 false) 26 (0, 0)) := q8
    clear n7 n8
    simp only [Pred.putsF_cons, Pred.putsF_nil, Nat.zero_add, Nat.reduceAdd, e0, e1, e2, e3, e4, e5, e6, e7, e8, Act.put, List.setIfInBounds_toArray, List.set_cons_zero, List.set_cons_succ]
    clear e0 e1 e2 e3 e4 e5 e6 e7 e8 hv
    have cA := (blk_below hE _ lA).trans bA
    have cB := (blk_below hE _ lB).trans bB
    have cC := (blk_below hE _ lC).trans bC
    have sX := hE.size
    have L2 : Below w.heap.size w XA := L1.trans (hE.mono L1.size)
    clear hE bA bB bC lA lB lC L1
    have mA := blk_lt cA
    have mB := blk_lt cB
    have mC := blk_lt cC
    have m7 := blk_lt q7
    have m8 := blk_lt q8
    go_upto_region 3 with (fail)
    refine Rd.name_world ?_
    intro W' hW
    have bA : blk W' w.heap.size = some (.cells #[.int .u8 (a0_0), .int .u8 (a0_1), .int .u8 (a0_2), .int .u8 (a0_3)] 23 (0, 0)) := by rw [hW, blk_alloc_old _ _ _ mA]; exact cA
    have bB : blk W' (w.heap.size + 1) = some (.cells #[.int .u8 (a1_0), .int .u8 (a1_1), .int .u8 (a1_2), .int .u8 (a1_3)] 23 (0, 0)) := by rw [hW, blk_alloc_old _ _ _ mB]; exact cB
    have bG : blk W' g7 = some (.cells (gotV a1_0 a1_1 a1_2 a1_3 true) 26 (0, 0)) := by rw [hW, blk_alloc_old _ _ _ m7]; exact q7
    have bH : blk W' g8 = some (.cells (gotV a2_0 a2_1 a2_2 a2_3 false) 26 (0, 0)) := by rw [hW, blk_alloc_old _ _ _ m8]; exact q8
    have bW : blk W' XA.heap.size = some (.cells #[.int .u8 (255), .int .u8 (255), .int .u8 (255), .int .u8 (255)] 23 (0, 0)) := by rw [hW]; exact blk_alloc_at _ _ _ rfl
    have L3 : Below w.heap.size w W' := by rw [hW]; repeat' (first | (with_reducible exact Below.refl _ _) | (with_reducible refine Rd.below_step ?_ (by assumption)) | (with_reducible refine Rd.below_alloc ?_ _) | (with_reducible refine Rd.below_drewN ?_ _) | (with_reducible refine Below.drew ?_) | (with_reducible refine Below.setCell ?_ ?_ _) | (with_reducible refine Rd.below_setRow ?_ ?_ _) | go_size | (simp only [World.size_alloc]; omega) | omega)
    have TW := hT.below L3 h0
    have lA := blk_lt bA
    have lB := blk_lt bB
    have lG := blk_lt bG
    have lH := blk_lt bH
    have lWh := blk_lt bW
    have lW : 0 < W'.heap.size := TW.1
    clear hW
    refine Pred.region_vals (Pred.Of [
        Is (.agg #[.int .u8 (a0_0), .int .u8 (a0_1), .int .u8 (a0_2), .int .u8 (a0_3)]),
        Is (.agg (gotV (a1_0) (a1_1) (a1_2) (a1_3) true)),
        Is (.agg #[.int .u8 (a0_0), .int .u8 (a0_1), .int .u8 (a0_2), .int .u8 (a0_3)]),
        Is (.agg #[.int .u8 (a0_0), .int .u8 (a0_1), .int .u8 (a0_2), .int .u8 (a0_3)]),
        Is (.agg (gotV (a2_0) (a2_1) (a2_2) (a2_3) false)),
        Is (.agg #[.int .u8 (a0_0), .int .u8 (a0_1), .int .u8 (a0_2), .int .u8 (a0_3)]),
        Is (.bool true),
        Is (.bool true),
        Is (.agg #[.int .u8 (a0_0), .int .u8 (a0_1), .int .u8 (a0_2), .int .u8 (a0_3)]),
        Is (.agg (gotV (a1_0) (a1_1) (a1_2) (a1_3) true)),
        Is (.agg #[.int .u8 (a1_0), .int .u8 (a1_1), .int .u8 (a1_2), .int .u8 (a1_3)]),
        Is (.agg #[.int .u8 (a1_0), .int .u8 (a1_1), .int .u8 (a1_2), .int .u8 (a1_3)]),
        Is (.bool true),
        Is (.bool true),
        Is (.bool true),
        Is (.agg #[.int .u8 (255), .int .u8 (255), .int .u8 (255), .int .u8 (255)]),
        Is (.agg (gotV (a1_0) (a1_1) (a1_2) (a1_3) true)),
        Is (.agg #[.int .u8 (a1_0), .int .u8 (a1_1), .int .u8 (a1_2), .int .u8 (a1_3)]),
        Is (.agg #[.int .u8 (a1_0), .int .u8 (a1_1), .int .u8 (a1_2), .int .u8 (a1_3)]),
        Is (.bool true),
        Is (.bool true),
        Is (.bool true),
        Is (.agg #[.int .u8 (a0_0), .int .u8 (a0_1), .int .u8 (a0_2), .int .u8 (a0_3)]),
        Is (.agg (gotV (a1_0) (a1_1) (a1_2) (a1_3) true)),
        Is (.agg #[.int .u8 (timesB a1_0 a0_0), .int .u8 (timesB a1_1 a0_1), .int .u8 (timesB a1_2 a0_2), .int .u8 (timesB a1_3 a0_3)]),
        Is (.agg #[.int .u8 (a1_0), .int .u8 (a1_1), .int .u8 (a1_2), .int .u8 (a1_3)]),
        Is (.agg #[.int .u8 (a0_0), .int .u8 (a0_1), .int .u8 (a0_2), .int .u8 (a0_3)]),
        Is (.agg #[.int .u8 (timesB a1_0 a0_0), .int .u8 (timesB a1_1 a0_1), .int .u8 (timesB a1_2 a0_2), .int .u8 (timesB a1_3 a0_3)]),
        Is (.bool true),
        Is (.bool true),
        Is (.bool true),
        Is (.agg #[.int .u8 (a0_0), .int .u8 (a0_1), .int .u8 (a0_2), .int .u8 (a0_3)]),
        Is (.agg (gotV (a1_0) (a1_1) (a1_2) (a1_3) true)),
        Is (.agg #[.int .u8 (255), .int .u8 (255), .int .u8 (255), .int .u8 (255)]),
        Is (.agg #[.int .u8 (255), .int .u8 (255), .int .u8 (255), .int .u8 (255)]),
        Is (.bool true),
        Is (.bool true),
        Is (.bool true),
        Is (undef),
        Is (undef),
        Is (undef),
        Is (.bool true),
        Is (.bool true),
        Is (.bool true),
        Is (.bool true),
        Is (.agg #[.int .u8 (a0_0), .int .u8 (a0_1), .int .u8 (a0_2), .int .u8 (a0_3)]),
        Is (.agg (gotV (a1_0) (a1_1) (a1_2) (a1_3) true)),
        Is (.agg #[.int .u8 (0), .int .u8 (0), .int .u8 (0), .int .u8 (0)]),
        Is (.agg #[.int .u8 (0), .int .u8 (0), .int .u8 (0), .int .u8 (0)]),
        Is (.bool true),
        Is (.bool true),
        Is (.bool true),
        Is (.bool true),
        Is (.bool true),
        Is (.bool true)]) (by kernel_rfl) (by kernel_rfl) (by kernel_rfl) (Pred.of_stab ?_) ?_ ?_
    · exact ⟨is_stab _, is_stab _, is_stab _, is_stab _, is_stab _, is_stab _, is_stab _, is_stab _, is_stab _, is_stab _, is_stab _, is_stab _, is_stab _, is_stab _, is_stab _, is_stab _, is_stab _, is_stab _, is_stab _, is_stab _, is_stab _, is_stab _, is_stab _, is_stab _, is_stab _, is_stab _, is_stab _, is_stab _, is_stab _, is_stab _, is_stab _, is_stab _, is_stab _, is_stab _, is_stab _, is_stab _, is_stab _, is_stab _, is_stab _, is_stab _, is_stab _, is_stab _, is_stab _, is_stab _, is_stab _, is_stab _, is_stab _, is_stab _, is_stab _, is_stab _, is_stab _, is_stab _, is_stab _, is_stab _, is_stab _, trivial⟩
    · refine ⟨?_, ?_, ?_, ?_, ?_, ?_, ?_, ?_, ?_, ?_, ?_, ?_, ?_, ?_, ?_, ?_, ?_, ?_, ?_, ?_, ?_, ?_, ?_, ?_, ?_, ?_, ?_, ?_, ?_, ?_, ?_, ?_, ?_, ?_, ?_, ?_, ?_, ?_, ?_, ?_, ?_, ?_, ?_, ?_, ?_, ?_, ?_, ?_, ?_, ?_, ?_, ?_, ?_, ?_, ?_, trivial⟩
      · intro b X hE hd hn hV
        have r4 : b.tmps[4]?.getD undef = .pointer (some ⟨w.heap.size, 0, none⟩) := (hn 4 (by kernel_rfl)).trans rfl
        have q := (blk_below hE _ lA).trans bA
        exact Pred.yields_run (v := .agg #[.int .u8 (a0_0), .int .u8 (a0_1), .int .u8 (a0_2), .int .u8 (a0_3)]) (Pred.wanted_none rfl) (by go_simp) ⟨Pred.ext_refl _ _, rfl⟩
      · intro b X hE hd hn hV
        have r9 : b.tmps[9]?.getD undef = .pointer (some ⟨g7, 0, none⟩) := (hn 9 (by kernel_rfl)).trans rfl
        have q := (blk_below hE _ lG).trans bG
        exact Pred.yields_run (v := .agg (gotV (a1_0) (a1_1) (a1_2) (a1_3) true)) (Pred.wanted_none rfl) (by go_simp) ⟨Pred.ext_refl _ _, rfl⟩
      · intro b X hE hd hn hV
        have r20 : b.tmps[20]?.getD undef = .agg #[.int .u8 (a0_0), .int .u8 (a0_1), .int .u8 (a0_2), .int .u8 (a0_3)] := hV 0 _ 20 rfl rfl (Pred.waits_near (by kernel_rfl) (by kernel_rfl))
        have r21 : b.tmps[21]?.getD undef = .agg (gotV (a1_0) (a1_1) (a1_2) (a1_3) true) := hV 1 _ 21 rfl rfl (Pred.waits_near (by kernel_rfl) (by kernel_rfl))
        have tb := TW.below hE lW
        refine Pred.yields_call (f := 8) (args := #[.int .i64 1, .agg #[.int .u8 (a0_0), .int .u8 (a0_1), .int .u8 (a0_2), .int .u8 (a0_3)], .agg (gotV (a1_0) (a1_1) (a1_2) (a1_3) true)]) (Pred.wanted_none rfl) (by go_simp) ?_
        exact (pixel_1 a0_0 a0_1 a0_2 a0_3 a1_0 a1_1 a1_2 a1_3 true _ pa0 pa1 pa2 pa3 pb0 pb1 pb2 pb3 tb).mono fun e w2 ⟨he, hb⟩ => ⟨_, he, Pred.ext_below hb hE.size, rfl⟩
      · intro b X hE hd hn hV
        have r4 : b.tmps[4]?.getD undef = .pointer (some ⟨w.heap.size, 0, none⟩) := (hn 4 (by kernel_rfl)).trans rfl
        have q := (blk_below hE _ lA).trans bA
        exact Pred.yields_run (v := .agg #[.int .u8 (a0_0), .int .u8 (a0_1), .int .u8 (a0_2), .int .u8 (a0_3)]) (Pred.wanted_none rfl) (by go_simp) ⟨Pred.ext_refl _ _, rfl⟩
      · intro b X hE hd hn hV
        have r10 : b.tmps[10]?.getD undef = .pointer (some ⟨g8, 0, none⟩) := (hn 10 (by kernel_rfl)).trans rfl
        have q := (blk_below hE _ lH).trans bH
        exact Pred.yields_run (v := .agg (gotV (a2_0) (a2_1) (a2_2) (a2_3) false)) (Pred.wanted_none rfl) (by go_simp) ⟨Pred.ext_refl _ _, rfl⟩
      · intro b X hE hd hn hV
        have r23 : b.tmps[23]?.getD undef = .agg #[.int .u8 (a0_0), .int .u8 (a0_1), .int .u8 (a0_2), .int .u8 (a0_3)] := hV 3 _ 23 rfl rfl (Pred.waits_near (by kernel_rfl) (by kernel_rfl))
        have r24 : b.tmps[24]?.getD undef = .agg (gotV (a2_0) (a2_1) (a2_2) (a2_3) false) := hV 4 _ 24 rfl rfl (Pred.waits_near (by kernel_rfl) (by kernel_rfl))
        have tb := TW.below hE lW
        refine Pred.yields_call (f := 8) (args := #[.int .i64 1, .agg #[.int .u8 (a0_0), .int .u8 (a0_1), .int .u8 (a0_2), .int .u8 (a0_3)], .agg (gotV (a2_0) (a2_1) (a2_2) (a2_3) false)]) (Pred.wanted_none rfl) (by go_simp) ?_
        exact (pixel_1 a0_0 a0_1 a0_2 a0_3 a2_0 a2_1 a2_2 a2_3 false _ pa0 pa1 pa2 pa3 pc0 pc1 pc2 pc3 tb).mono fun e w2 ⟨he, hb⟩ => ⟨_, he, Pred.ext_below hb hE.size, rfl⟩
      · intro b X hE hd hn hV
        have r22 : b.tmps[22]?.getD undef = .agg #[.int .u8 (a0_0), .int .u8 (a0_1), .int .u8 (a0_2), .int .u8 (a0_3)] := hV 2 _ 22 rfl rfl (Pred.waits_near (by kernel_rfl) (by kernel_rfl))
        have r25 : b.tmps[25]?.getD undef = .agg #[.int .u8 (a0_0), .int .u8 (a0_1), .int .u8 (a0_2), .int .u8 (a0_3)] := hV 5 _ 25 rfl rfl (Pred.waits_near (by kernel_rfl) (by kernel_rfl))
        exact Pred.yields_run (v := .bool true) (Pred.wanted_none rfl) (by go_simp) ⟨Pred.ext_refl _ _, rfl⟩
      · intro b X hE hd hn hV
        have r26 : b.tmps[26]?.getD undef = .bool true := hV 6 _ 26 rfl rfl (Pred.waits_near (by kernel_rfl) (by kernel_rfl))
        exact Pred.yields_run (v := .bool true) (Pred.wanted_none rfl) (by go_simp) ⟨Pred.ext_refl _ _, rfl⟩
      · intro b X hE hd hn hV
        have r4 : b.tmps[4]?.getD undef = .pointer (some ⟨w.heap.size, 0, none⟩) := (hn 4 (by kernel_rfl)).trans rfl
        have r27 : b.tmps[27]?.getD undef = .bool true := hV 7 _ 27 rfl rfl (Pred.waits_near (by kernel_rfl) (by kernel_rfl))
        have q := (blk_below hE _ lA).trans bA
        exact Pred.yields_run (v := .agg #[.int .u8 (a0_0), .int .u8 (a0_1), .int .u8 (a0_2), .int .u8 (a0_3)]) ((Pred.wanted_at (g := 7) (d := 27) (f := true) rfl rfl r27).trans rfl) (by go_simp) ⟨Pred.ext_refl _ _, rfl⟩
      · intro b X hE hd hn hV
        have r9 : b.tmps[9]?.getD undef = .pointer (some ⟨g7, 0, none⟩) := (hn 9 (by kernel_rfl)).trans rfl
        have r27 : b.tmps[27]?.getD undef = .bool true := hV 7 _ 27 rfl rfl (Pred.waits_near (by kernel_rfl) (by kernel_rfl))
        have q := (blk_below hE _ lG).trans bG
        exact Pred.yields_run (v := .agg (gotV (a1_0) (a1_1) (a1_2) (a1_3) true)) ((Pred.wanted_at (g := 7) (d := 27) (f := true) rfl rfl r27).trans rfl) (by go_simp) ⟨Pred.ext_refl _ _, rfl⟩
      · intro b X hE hd hn hV
        have r28 : b.tmps[28]?.getD undef = .agg #[.int .u8 (a0_0), .int .u8 (a0_1), .int .u8 (a0_2), .int .u8 (a0_3)] := hV 8 _ 28 rfl rfl (Pred.waits_near (by kernel_rfl) (by kernel_rfl))
        have r29 : b.tmps[29]?.getD undef = .agg (gotV (a1_0) (a1_1) (a1_2) (a1_3) true) := hV 9 _ 29 rfl rfl (Pred.waits_near (by kernel_rfl) (by kernel_rfl))
        have r27 : b.tmps[27]?.getD undef = .bool true := hV 7 _ 27 rfl rfl (Pred.waits_near (by kernel_rfl) (by kernel_rfl))
        have tb := TW.below hE lW
        refine Pred.yields_call (f := 8) (args := #[.int .i64 2, .agg #[.int .u8 (a0_0), .int .u8 (a0_1), .int .u8 (a0_2), .int .u8 (a0_3)], .agg (gotV (a1_0) (a1_1) (a1_2) (a1_3) true)]) ((Pred.wanted_at (g := 7) (d := 27) (f := true) rfl rfl r27).trans rfl) (by go_simp) ?_
        exact (pixel_2 a0_0 a0_1 a0_2 a0_3 a1_0 a1_1 a1_2 a1_3 true _ pa0 pa1 pa2 pa3 pb0 pb1 pb2 pb3 tb).mono fun e w2 ⟨he, hb⟩ => ⟨_, he, Pred.ext_below hb hE.size, rfl⟩
      · intro b X hE hd hn hV
        have r5 : b.tmps[5]?.getD undef = .pointer (some ⟨w.heap.size + 1, 0, none⟩) := (hn 5 (by kernel_rfl)).trans rfl
        have r27 : b.tmps[27]?.getD undef = .bool true := hV 7 _ 27 rfl rfl (Pred.waits_near (by kernel_rfl) (by kernel_rfl))
        have q := (blk_below hE _ lB).trans bB
        exact Pred.yields_run (v := .agg #[.int .u8 (a1_0), .int .u8 (a1_1), .int .u8 (a1_2), .int .u8 (a1_3)]) ((Pred.wanted_at (g := 7) (d := 27) (f := true) rfl rfl r27).trans rfl) (by go_simp) ⟨Pred.ext_refl _ _, rfl⟩
      · intro b X hE hd hn hV
        have r30 : b.tmps[30]?.getD undef = .agg #[.int .u8 (a1_0), .int .u8 (a1_1), .int .u8 (a1_2), .int .u8 (a1_3)] := hV 10 _ 30 rfl rfl (Pred.waits_near (by kernel_rfl) (by kernel_rfl))
        have r31 : b.tmps[31]?.getD undef = .agg #[.int .u8 (a1_0), .int .u8 (a1_1), .int .u8 (a1_2), .int .u8 (a1_3)] := hV 11 _ 31 rfl rfl (Pred.waits_near (by kernel_rfl) (by kernel_rfl))
        have r27 : b.tmps[27]?.getD undef = .bool true := hV 7 _ 27 rfl rfl (Pred.waits_near (by kernel_rfl) (by kernel_rfl))
        exact Pred.yields_run (v := .bool true) ((Pred.wanted_at (g := 7) (d := 27) (f := true) rfl rfl r27).trans rfl) (by go_simp) ⟨Pred.ext_refl _ _, rfl⟩
      · intro b X hE hd hn hV
        have r27 : b.tmps[27]?.getD undef = .bool true := hV 7 _ 27 rfl rfl (Pred.waits_near (by kernel_rfl) (by kernel_rfl))
        have r32 : b.tmps[32]?.getD undef = .bool true := hV 12 _ 32 rfl rfl (Pred.waits_near (by kernel_rfl) (by kernel_rfl))
        exact Pred.yields_run (v := .bool true) (Pred.wanted_none rfl) (by go_simp) ⟨Pred.ext_refl _ _, rfl⟩
      · intro b X hE hd hn hV
        have r33 : b.tmps[33]?.getD undef = .bool true := hV 13 _ 33 rfl rfl (Pred.waits_near (by kernel_rfl) (by kernel_rfl))
        exact Pred.yields_run (v := .bool true) (Pred.wanted_none rfl) (by go_simp) ⟨Pred.ext_refl _ _, rfl⟩
      · intro b X hE hd hn hV
        have r11 : b.tmps[11]?.getD undef = .pointer (some ⟨XA.heap.size, 0, none⟩) := (hn 11 (by kernel_rfl)).trans rfl
        have r34 : b.tmps[34]?.getD undef = .bool true := hV 14 _ 34 rfl rfl (Pred.waits_near (by kernel_rfl) (by kernel_rfl))
        have q := (blk_below hE _ lWh).trans bW
        exact Pred.yields_run (v := .agg #[.int .u8 (255), .int .u8 (255), .int .u8 (255), .int .u8 (255)]) ((Pred.wanted_at (g := 14) (d := 34) (f := true) rfl rfl r34).trans rfl) (by go_simp) ⟨Pred.ext_refl _ _, rfl⟩
      · intro b X hE hd hn hV
        have r9 : b.tmps[9]?.getD undef = .pointer (some ⟨g7, 0, none⟩) := (hn 9 (by kernel_rfl)).trans rfl
        have r34 : b.tmps[34]?.getD undef = .bool true := hV 14 _ 34 rfl rfl (Pred.waits_near (by kernel_rfl) (by kernel_rfl))
        have q := (blk_below hE _ lG).trans bG
        exact Pred.yields_run (v := .agg (gotV (a1_0) (a1_1) (a1_2) (a1_3) true)) ((Pred.wanted_at (g := 14) (d := 34) (f := true) rfl rfl r34).trans rfl) (by go_simp) ⟨Pred.ext_refl _ _, rfl⟩
      · intro b X hE hd hn hV
        have r35 : b.tmps[35]?.getD undef = .agg #[.int .u8 (255), .int .u8 (255), .int .u8 (255), .int .u8 (255)] := hV 15 _ 35 rfl rfl (Pred.waits_near (by kernel_rfl) (by kernel_rfl))
        have r36 : b.tmps[36]?.getD undef = .agg (gotV (a1_0) (a1_1) (a1_2) (a1_3) true) := hV 16 _ 36 rfl rfl (Pred.waits_near (by kernel_rfl) (by kernel_rfl))
        have r34 : b.tmps[34]?.getD undef = .bool true := hV 14 _ 34 rfl rfl (Pred.waits_near (by kernel_rfl) (by kernel_rfl))
        have tb := TW.below hE lW
        refine Pred.yields_call (f := 8) (args := #[.int .i64 3, .agg #[.int .u8 (255), .int .u8 (255), .int .u8 (255), .int .u8 (255)], .agg (gotV (a1_0) (a1_1) (a1_2) (a1_3) true)]) ((Pred.wanted_at (g := 14) (d := 34) (f := true) rfl rfl r34).trans rfl) (by go_simp) ?_
        exact (pixel_white a1_0 a1_1 a1_2 a1_3 true _ pb0 pb1 pb2 pb3 tb).mono fun e w2 ⟨he, hb⟩ => ⟨_, he, Pred.ext_below hb hE.size, rfl⟩
      · intro b X hE hd hn hV
        have r5 : b.tmps[5]?.getD undef = .pointer (some ⟨w.heap.size + 1, 0, none⟩) := (hn 5 (by kernel_rfl)).trans rfl
        have r34 : b.tmps[34]?.getD undef = .bool true := hV 14 _ 34 rfl rfl (Pred.waits_near (by kernel_rfl) (by kernel_rfl))
        have q := (blk_below hE _ lB).trans bB
        exact Pred.yields_run (v := .agg #[.int .u8 (a1_0), .int .u8 (a1_1), .int .u8 (a1_2), .int .u8 (a1_3)]) ((Pred.wanted_at (g := 14) (d := 34) (f := true) rfl rfl r34).trans rfl) (by go_simp) ⟨Pred.ext_refl _ _, rfl⟩
      · intro b X hE hd hn hV
        have r37 : b.tmps[37]?.getD undef = .agg #[.int .u8 (a1_0), .int .u8 (a1_1), .int .u8 (a1_2), .int .u8 (a1_3)] := hV 17 _ 37 rfl rfl (Pred.waits_near (by kernel_rfl) (by kernel_rfl))
        have r38 : b.tmps[38]?.getD undef = .agg #[.int .u8 (a1_0), .int .u8 (a1_1), .int .u8 (a1_2), .int .u8 (a1_3)] := hV 18 _ 38 rfl rfl (Pred.waits_near (by kernel_rfl) (by kernel_rfl))
        have r34 : b.tmps[34]?.getD undef = .bool true := hV 14 _ 34 rfl rfl (Pred.waits_near (by kernel_rfl) (by kernel_rfl))
        exact Pred.yields_run (v := .bool true) ((Pred.wanted_at (g := 14) (d := 34) (f := true) rfl rfl r34).trans rfl) (by go_simp) ⟨Pred.ext_refl _ _, rfl⟩
      · intro b X hE hd hn hV
        have r34 : b.tmps[34]?.getD undef = .bool true := hV 14 _ 34 rfl rfl (Pred.waits_near (by kernel_rfl) (by kernel_rfl))
        have r39 : b.tmps[39]?.getD undef = .bool true := hV 19 _ 39 rfl rfl (Pred.waits_near (by kernel_rfl) (by kernel_rfl))
        exact Pred.yields_run (v := .bool true) (Pred.wanted_none rfl) (by go_simp) ⟨Pred.ext_refl _ _, rfl⟩
      · intro b X hE hd hn hV
        have r40 : b.tmps[40]?.getD undef = .bool true := hV 20 _ 40 rfl rfl (Pred.waits_near (by kernel_rfl) (by kernel_rfl))
        exact Pred.yields_run (v := .bool true) (Pred.wanted_none rfl) (by go_simp) ⟨Pred.ext_refl _ _, rfl⟩
      · intro b X hE hd hn hV
        have r4 : b.tmps[4]?.getD undef = .pointer (some ⟨w.heap.size, 0, none⟩) := (hn 4 (by kernel_rfl)).trans rfl
        have r41 : b.tmps[41]?.getD undef = .bool true := hV 21 _ 41 rfl rfl (Pred.waits_near (by kernel_rfl) (by kernel_rfl))
        have q := (blk_below hE _ lA).trans bA
        exact Pred.yields_run (v := .agg #[.int .u8 (a0_0), .int .u8 (a0_1), .int .u8 (a0_2), .int .u8 (a0_3)]) ((Pred.wanted_at (g := 21) (d := 41) (f := true) rfl rfl r41).trans rfl) (by go_simp) ⟨Pred.ext_refl _ _, rfl⟩
      · intro b X hE hd hn hV
        have r9 : b.tmps[9]?.getD undef = .pointer (some ⟨g7, 0, none⟩) := (hn 9 (by kernel_rfl)).trans rfl
        have r41 : b.tmps[41]?.getD undef = .bool true := hV 21 _ 41 rfl rfl (Pred.waits_near (by kernel_rfl) (by kernel_rfl))
        have q := (blk_below hE _ lG).trans bG
        exact Pred.yields_run (v := .agg (gotV (a1_0) (a1_1) (a1_2) (a1_3) true)) ((Pred.wanted_at (g := 21) (d := 41) (f := true) rfl rfl r41).trans rfl) (by go_simp) ⟨Pred.ext_refl _ _, rfl⟩
      · intro b X hE hd hn hV
        have r42 : b.tmps[42]?.getD undef = .agg #[.int .u8 (a0_0), .int .u8 (a0_1), .int .u8 (a0_2), .int .u8 (a0_3)] := hV 22 _ 42 rfl rfl (Pred.waits_near (by kernel_rfl) (by kernel_rfl))
        have r43 : b.tmps[43]?.getD undef = .agg (gotV (a1_0) (a1_1) (a1_2) (a1_3) true) := hV 23 _ 43 rfl rfl (Pred.waits_near (by kernel_rfl) (by kernel_rfl))
        have r41 : b.tmps[41]?.getD undef = .bool true := hV 21 _ 41 rfl rfl (Pred.waits_near (by kernel_rfl) (by kernel_rfl))
        have tb := TW.below hE lW
        refine Pred.yields_call (f := 8) (args := #[.int .i64 3, .agg #[.int .u8 (a0_0), .int .u8 (a0_1), .int .u8 (a0_2), .int .u8 (a0_3)], .agg (gotV (a1_0) (a1_1) (a1_2) (a1_3) true)]) ((Pred.wanted_at (g := 21) (d := 41) (f := true) rfl rfl r41).trans rfl) (by go_simp) ?_
        exact (pixel_3 a0_0 a0_1 a0_2 a0_3 a1_0 a1_1 a1_2 a1_3 true _ pa0 pa1 pa2 pa3 pb0 pb1 pb2 pb3 tb).mono fun e w2 ⟨he, hb⟩ => ⟨_, he, Pred.ext_below hb hE.size, rfl⟩
      · intro b X hE hd hn hV
        have r5 : b.tmps[5]?.getD undef = .pointer (some ⟨w.heap.size + 1, 0, none⟩) := (hn 5 (by kernel_rfl)).trans rfl
        have r41 : b.tmps[41]?.getD undef = .bool true := hV 21 _ 41 rfl rfl (Pred.waits_near (by kernel_rfl) (by kernel_rfl))
        have q := (blk_below hE _ lB).trans bB
        exact Pred.yields_run (v := .agg #[.int .u8 (a1_0), .int .u8 (a1_1), .int .u8 (a1_2), .int .u8 (a1_3)]) ((Pred.wanted_at (g := 21) (d := 41) (f := true) rfl rfl r41).trans rfl) (by go_simp) ⟨Pred.ext_refl _ _, rfl⟩
      · intro b X hE hd hn hV
        have r4 : b.tmps[4]?.getD undef = .pointer (some ⟨w.heap.size, 0, none⟩) := (hn 4 (by kernel_rfl)).trans rfl
        have r41 : b.tmps[41]?.getD undef = .bool true := hV 21 _ 41 rfl rfl (Pred.waits_near (by kernel_rfl) (by kernel_rfl))
        have q := (blk_below hE _ lA).trans bA
        exact Pred.yields_run (v := .agg #[.int .u8 (a0_0), .int .u8 (a0_1), .int .u8 (a0_2), .int .u8 (a0_3)]) ((Pred.wanted_at (g := 21) (d := 41) (f := true) rfl rfl r41).trans rfl) (by go_simp) ⟨Pred.ext_refl _ _, rfl⟩
      · intro b X hE hd hn hV
        have r45 : b.tmps[45]?.getD undef = .agg #[.int .u8 (a1_0), .int .u8 (a1_1), .int .u8 (a1_2), .int .u8 (a1_3)] := hV 25 _ 45 rfl rfl (Pred.waits_near (by kernel_rfl) (by kernel_rfl))
        have r46 : b.tmps[46]?.getD undef = .agg #[.int .u8 (a0_0), .int .u8 (a0_1), .int .u8 (a0_2), .int .u8 (a0_3)] := hV 26 _ 46 rfl rfl (Pred.waits_near (by kernel_rfl) (by kernel_rfl))
        have r41 : b.tmps[41]?.getD undef = .bool true := hV 21 _ 41 rfl rfl (Pred.waits_near (by kernel_rfl) (by kernel_rfl))
        have tb := TW.below hE lW
        refine Pred.yields_call (f := 11) (args := #[.agg #[.int .u8 (a1_0), .int .u8 (a1_1), .int .u8 (a1_2), .int .u8 (a1_3)], .agg #[.int .u8 (a0_0), .int .u8 (a0_1), .int .u8 (a0_2), .int .u8 (a0_3)]]) ((Pred.wanted_at (g := 21) (d := 41) (f := true) rfl rfl r41).trans rfl) (by go_simp) ?_
        exact (rtimes_any a1_0 a1_1 a1_2 a1_3 a0_0 a0_1 a0_2 a0_3 _ pb0 pb1 pb2 pb3 pa0 pa1 pa2 pa3).mono fun e w2 ⟨he, hb⟩ => ⟨_, he, Pred.ext_below hb hE.size, rfl⟩
      · intro b X hE hd hn hV
        have r44 : b.tmps[44]?.getD undef = .agg #[.int .u8 (timesB a1_0 a0_0), .int .u8 (timesB a1_1 a0_1), .int .u8 (timesB a1_2 a0_2), .int .u8 (timesB a1_3 a0_3)] := hV 24 _ 44 rfl rfl (Pred.waits_near (by kernel_rfl) (by kernel_rfl))
        have r47 : b.tmps[47]?.getD undef = .agg #[.int .u8 (timesB a1_0 a0_0), .int .u8 (timesB a1_1 a0_1), .int .u8 (timesB a1_2 a0_2), .int .u8 (timesB a1_3 a0_3)] := hV 27 _ 47 rfl rfl (Pred.waits_near (by kernel_rfl) (by kernel_rfl))
        have r41 : b.tmps[41]?.getD undef = .bool true := hV 21 _ 41 rfl rfl (Pred.waits_near (by kernel_rfl) (by kernel_rfl))
        exact Pred.yields_run (v := .bool true) ((Pred.wanted_at (g := 21) (d := 41) (f := true) rfl rfl r41).trans rfl) (by go_simp) ⟨Pred.ext_refl _ _, rfl⟩
      · intro b X hE hd hn hV
        have r41 : b.tmps[41]?.getD undef = .bool true := hV 21 _ 41 rfl rfl (Pred.waits_near (by kernel_rfl) (by kernel_rfl))
        have r48 : b.tmps[48]?.getD undef = .bool true := hV 28 _ 48 rfl rfl (Pred.waits_near (by kernel_rfl) (by kernel_rfl))
        exact Pred.yields_run (v := .bool true) (Pred.wanted_none rfl) (by go_simp) ⟨Pred.ext_refl _ _, rfl⟩
      · intro b X hE hd hn hV
        have r49 : b.tmps[49]?.getD undef = .bool true := hV 29 _ 49 rfl rfl (Pred.waits_near (by kernel_rfl) (by kernel_rfl))
        exact Pred.yields_run (v := .bool true) (Pred.wanted_none rfl) (by go_simp) ⟨Pred.ext_refl _ _, rfl⟩
      · intro b X hE hd hn hV
        have r4 : b.tmps[4]?.getD undef = .pointer (some ⟨w.heap.size, 0, none⟩) := (hn 4 (by kernel_rfl)).trans rfl
        have r50 : b.tmps[50]?.getD undef = .bool true := hV 30 _ 50 rfl rfl (Pred.waits_near (by kernel_rfl) (by kernel_rfl))
        have q := (blk_below hE _ lA).trans bA
        exact Pred.yields_run (v := .agg #[.int .u8 (a0_0), .int .u8 (a0_1), .int .u8 (a0_2), .int .u8 (a0_3)]) ((Pred.wanted_at (g := 30) (d := 50) (f := true) rfl rfl r50).trans rfl) (by go_simp) ⟨Pred.ext_refl _ _, rfl⟩
      · intro b X hE hd hn hV
        have r9 : b.tmps[9]?.getD undef = .pointer (some ⟨g7, 0, none⟩) := (hn 9 (by kernel_rfl)).trans rfl
        have r50 : b.tmps[50]?.getD undef = .bool true := hV 30 _ 50 rfl rfl (Pred.waits_near (by kernel_rfl) (by kernel_rfl))
        have q := (blk_below hE _ lG).trans bG
        exact Pred.yields_run (v := .agg (gotV (a1_0) (a1_1) (a1_2) (a1_3) true)) ((Pred.wanted_at (g := 30) (d := 50) (f := true) rfl rfl r50).trans rfl) (by go_simp) ⟨Pred.ext_refl _ _, rfl⟩
      · intro b X hE hd hn hV
        have r51 : b.tmps[51]?.getD undef = .agg #[.int .u8 (a0_0), .int .u8 (a0_1), .int .u8 (a0_2), .int .u8 (a0_3)] := hV 31 _ 51 rfl rfl (Pred.waits_near (by kernel_rfl) (by kernel_rfl))
        have r52 : b.tmps[52]?.getD undef = .agg (gotV (a1_0) (a1_1) (a1_2) (a1_3) true) := hV 32 _ 52 rfl rfl (Pred.waits_near (by kernel_rfl) (by kernel_rfl))
        have r50 : b.tmps[50]?.getD undef = .bool true := hV 30 _ 50 rfl rfl (Pred.waits_near (by kernel_rfl) (by kernel_rfl))
        have tb := TW.below hE lW
        refine Pred.yields_call (f := 8) (args := #[.int .i64 4, .agg #[.int .u8 (a0_0), .int .u8 (a0_1), .int .u8 (a0_2), .int .u8 (a0_3)], .agg (gotV (a1_0) (a1_1) (a1_2) (a1_3) true)]) ((Pred.wanted_at (g := 30) (d := 50) (f := true) rfl rfl r50).trans rfl) (by go_simp) ?_
        exact (pixel_4t a0_0 a0_1 a0_2 a0_3 a1_0 a1_1 a1_2 a1_3 _ pa0 pa1 pa2 pa3 pb0 pb1 pb2 pb3 tb).mono fun e w2 ⟨he, hb⟩ => ⟨_, he, Pred.ext_below hb hE.size, rfl⟩
      · intro b X hE hd hn hV
        have r11 : b.tmps[11]?.getD undef = .pointer (some ⟨XA.heap.size, 0, none⟩) := (hn 11 (by kernel_rfl)).trans rfl
        have r50 : b.tmps[50]?.getD undef = .bool true := hV 30 _ 50 rfl rfl (Pred.waits_near (by kernel_rfl) (by kernel_rfl))
        have q := (blk_below hE _ lWh).trans bW
        exact Pred.yields_run (v := .agg #[.int .u8 (255), .int .u8 (255), .int .u8 (255), .int .u8 (255)]) ((Pred.wanted_at (g := 30) (d := 50) (f := true) rfl rfl r50).trans rfl) (by go_simp) ⟨Pred.ext_refl _ _, rfl⟩
      · intro b X hE hd hn hV
        have r53 : b.tmps[53]?.getD undef = .agg #[.int .u8 (255), .int .u8 (255), .int .u8 (255), .int .u8 (255)] := hV 33 _ 53 rfl rfl (Pred.waits_near (by kernel_rfl) (by kernel_rfl))
        have r54 : b.tmps[54]?.getD undef = .agg #[.int .u8 (255), .int .u8 (255), .int .u8 (255), .int .u8 (255)] := hV 34 _ 54 rfl rfl (Pred.waits_near (by kernel_rfl) (by kernel_rfl))
        have r50 : b.tmps[50]?.getD undef = .bool true := hV 30 _ 50 rfl rfl (Pred.waits_near (by kernel_rfl) (by kernel_rfl))
        exact Pred.yields_run (v := .bool true) ((Pred.wanted_at (g := 30) (d := 50) (f := true) rfl rfl r50).trans rfl) (by go_simp) ⟨Pred.ext_refl _ _, rfl⟩
      · intro b X hE hd hn hV
        have r3 : b.tmps[3]?.getD undef = .bool true := (hn 3 (by kernel_rfl)).trans rfl
        have r50 : b.tmps[50]?.getD undef = .bool true := hV 30 _ 50 rfl rfl (Pred.waits_near (by kernel_rfl) (by kernel_rfl))
        exact Pred.yields_run (v := .bool true) ((Pred.wanted_at (g := 30) (d := 50) (f := true) rfl rfl r50).trans rfl) (by go_simp) ⟨Pred.ext_refl _ _, rfl⟩
      · intro b X hE hd hn hV
        have r56 : b.tmps[56]?.getD undef = .bool true := hV 36 _ 56 rfl rfl (Pred.waits_near (by kernel_rfl) (by kernel_rfl))
        have r50 : b.tmps[50]?.getD undef = .bool true := hV 30 _ 50 rfl rfl (Pred.waits_near (by kernel_rfl) (by kernel_rfl))
        exact Pred.yields_run (v := .bool true) ((Pred.wanted_at (g := 30) (d := 50) (f := true) rfl rfl r50).trans rfl) (by go_simp) ⟨Pred.ext_refl _ _, rfl⟩
      · intro b X hE hd hn hV
        have r57 : b.tmps[57]?.getD undef = .bool true := hV 37 _ 57 rfl rfl (Pred.waits_near (by kernel_rfl) (by kernel_rfl))
        exact Pred.yields_not ((Pred.wanted_at (g := 37) (d := 57) (f := false) rfl rfl r57).trans rfl) ⟨Pred.ext_refl _ _, rfl⟩
      · intro b X hE hd hn hV
        have r57 : b.tmps[57]?.getD undef = .bool true := hV 37 _ 57 rfl rfl (Pred.waits_near (by kernel_rfl) (by kernel_rfl))
        exact Pred.yields_not ((Pred.wanted_at (g := 37) (d := 57) (f := false) rfl rfl r57).trans rfl) ⟨Pred.ext_refl _ _, rfl⟩
      · intro b X hE hd hn hV
        have r57 : b.tmps[57]?.getD undef = .bool true := hV 37 _ 57 rfl rfl (Pred.waits_near (by kernel_rfl) (by kernel_rfl))
        exact Pred.yields_not ((Pred.wanted_at (g := 37) (d := 57) (f := false) rfl rfl r57).trans rfl) ⟨Pred.ext_refl _ _, rfl⟩
      · intro b X hE hd hn hV
        have r57 : b.tmps[57]?.getD undef = .bool true := hV 37 _ 57 rfl rfl (Pred.waits_near (by kernel_rfl) (by kernel_rfl))
        have r60 : b.tmps[60]?.getD undef = undef := hV 40 _ 60 rfl rfl (Pred.waits_near (by kernel_rfl) (by kernel_rfl))
        have r50 : b.tmps[50]?.getD undef = .bool true := hV 30 _ 50 rfl rfl (Pred.waits_near (by kernel_rfl) (by kernel_rfl))
        exact Pred.yields_run (v := .bool true) ((Pred.wanted_at (g := 30) (d := 50) (f := true) rfl rfl r50).trans rfl) (by go_simp) ⟨Pred.ext_refl _ _, rfl⟩
      · intro b X hE hd hn hV
        have r55 : b.tmps[55]?.getD undef = .bool true := hV 35 _ 55 rfl rfl (Pred.waits_near (by kernel_rfl) (by kernel_rfl))
        have r61 : b.tmps[61]?.getD undef = .bool true := hV 41 _ 61 rfl rfl (Pred.waits_near (by kernel_rfl) (by kernel_rfl))
        have r50 : b.tmps[50]?.getD undef = .bool true := hV 30 _ 50 rfl rfl (Pred.waits_near (by kernel_rfl) (by kernel_rfl))
        exact Pred.yields_run (v := .bool true) ((Pred.wanted_at (g := 30) (d := 50) (f := true) rfl rfl r50).trans rfl) (by go_simp) ⟨Pred.ext_refl _ _, rfl⟩
      · intro b X hE hd hn hV
        have r50 : b.tmps[50]?.getD undef = .bool true := hV 30 _ 50 rfl rfl (Pred.waits_near (by kernel_rfl) (by kernel_rfl))
        have r62 : b.tmps[62]?.getD undef = .bool true := hV 42 _ 62 rfl rfl (Pred.waits_near (by kernel_rfl) (by kernel_rfl))
        exact Pred.yields_run (v := .bool true) (Pred.wanted_none rfl) (by go_simp) ⟨Pred.ext_refl _ _, rfl⟩
      · intro b X hE hd hn hV
        have r63 : b.tmps[63]?.getD undef = .bool true := hV 43 _ 63 rfl rfl (Pred.waits_near (by kernel_rfl) (by kernel_rfl))
        exact Pred.yields_run (v := .bool true) (Pred.wanted_none rfl) (by go_simp) ⟨Pred.ext_refl _ _, rfl⟩
      · intro b X hE hd hn hV
        have r4 : b.tmps[4]?.getD undef = .pointer (some ⟨w.heap.size, 0, none⟩) := (hn 4 (by kernel_rfl)).trans rfl
        have r64 : b.tmps[64]?.getD undef = .bool true := hV 44 _ 64 rfl rfl (Pred.waits_near (by kernel_rfl) (by kernel_rfl))
        have q := (blk_below hE _ lA).trans bA
        exact Pred.yields_run (v := .agg #[.int .u8 (a0_0), .int .u8 (a0_1), .int .u8 (a0_2), .int .u8 (a0_3)]) ((Pred.wanted_at (g := 44) (d := 64) (f := true) rfl rfl r64).trans rfl) (by go_simp) ⟨Pred.ext_refl _ _, rfl⟩
      · intro b X hE hd hn hV
        have r9 : b.tmps[9]?.getD undef = .pointer (some ⟨g7, 0, none⟩) := (hn 9 (by kernel_rfl)).trans rfl
        have r64 : b.tmps[64]?.getD undef = .bool true := hV 44 _ 64 rfl rfl (Pred.waits_near (by kernel_rfl) (by kernel_rfl))
        have q := (blk_below hE _ lG).trans bG
        exact Pred.yields_run (v := .agg (gotV (a1_0) (a1_1) (a1_2) (a1_3) true)) ((Pred.wanted_at (g := 44) (d := 64) (f := true) rfl rfl r64).trans rfl) (by go_simp) ⟨Pred.ext_refl _ _, rfl⟩
      · intro b X hE hd hn hV
        have r65 : b.tmps[65]?.getD undef = .agg #[.int .u8 (a0_0), .int .u8 (a0_1), .int .u8 (a0_2), .int .u8 (a0_3)] := hV 45 _ 65 rfl rfl (Pred.waits_near (by kernel_rfl) (by kernel_rfl))
        have r66 : b.tmps[66]?.getD undef = .agg (gotV (a1_0) (a1_1) (a1_2) (a1_3) true) := hV 46 _ 66 rfl rfl (Pred.waits_near (by kernel_rfl) (by kernel_rfl))
        have r64 : b.tmps[64]?.getD undef = .bool true := hV 44 _ 64 rfl rfl (Pred.waits_near (by kernel_rfl) (by kernel_rfl))
        have tb := TW.below hE lW
        refine Pred.yields_call (f := 8) (args := #[.int .i64 9, .agg #[.int .u8 (a0_0), .int .u8 (a0_1), .int .u8 (a0_2), .int .u8 (a0_3)], .agg (gotV (a1_0) (a1_1) (a1_2) (a1_3) true)]) ((Pred.wanted_at (g := 44) (d := 64) (f := true) rfl rfl r64).trans rfl) (by go_simp) ?_
        exact (pixel_no 9 a0_0 a0_1 a0_2 a0_3 a1_0 a1_1 a1_2 a1_3 true _ (by decide)).mono fun e w2 ⟨he, hb⟩ => ⟨_, he, Pred.ext_below hb hE.size, rfl⟩
      · intro b X hE hd hn hV
        have r64 : b.tmps[64]?.getD undef = .bool true := hV 44 _ 64 rfl rfl (Pred.waits_near (by kernel_rfl) (by kernel_rfl))
        exact Pred.yields_run (v := .agg #[.int .u8 (0), .int .u8 (0), .int .u8 (0), .int .u8 (0)]) ((Pred.wanted_at (g := 44) (d := 64) (f := true) rfl rfl r64).trans rfl) (by first | (go_simp; done) | (go_simp; rfl)) ⟨Pred.ext_refl _ _, rfl⟩
      · intro b X hE hd hn hV
        have r67 : b.tmps[67]?.getD undef = .agg #[.int .u8 (0), .int .u8 (0), .int .u8 (0), .int .u8 (0)] := hV 47 _ 67 rfl rfl (Pred.waits_near (by kernel_rfl) (by kernel_rfl))
        have r68 : b.tmps[68]?.getD undef = .agg #[.int .u8 (0), .int .u8 (0), .int .u8 (0), .int .u8 (0)] := hV 48 _ 68 rfl rfl (Pred.waits_near (by kernel_rfl) (by kernel_rfl))
        have r64 : b.tmps[64]?.getD undef = .bool true := hV 44 _ 64 rfl rfl (Pred.waits_near (by kernel_rfl) (by kernel_rfl))
        exact Pred.yields_run (v := .bool true) ((Pred.wanted_at (g := 44) (d := 64) (f := true) rfl rfl r64).trans rfl) (by go_simp) ⟨Pred.ext_refl _ _, rfl⟩
      · intro b X hE hd hn hV
        have r64 : b.tmps[64]?.getD undef = .bool true := hV 44 _ 64 rfl rfl (Pred.waits_near (by kernel_rfl) (by kernel_rfl))
        have r69 : b.tmps[69]?.getD undef = .bool true := hV 49 _ 69 rfl rfl (Pred.waits_near (by kernel_rfl) (by kernel_rfl))
        exact Pred.yields_run (v := .bool true) (Pred.wanted_none rfl) (by go_simp) ⟨Pred.ext_refl _ _, rfl⟩
      · intro b X hE hd hn hV
        have r70 : b.tmps[70]?.getD undef = .bool true := hV 50 _ 70 rfl rfl (Pred.waits_near (by kernel_rfl) (by kernel_rfl))
        exact Pred.yields_run (v := .bool true) (Pred.wanted_none rfl) (by go_simp) ⟨Pred.ext_refl _ _, rfl⟩
      · intro b X hE hd hn hV
        have r71 : b.tmps[71]?.getD undef = .bool true := hV 51 _ 71 rfl rfl (Pred.waits_near (by kernel_rfl) (by kernel_rfl))
        have tb := TW.below hE lW
        refine Pred.yields_call (f := 10) (args := #[]) ((Pred.wanted_at (g := 51) (d := 71) (f := true) rfl rfl r71).trans rfl) (by go_simp) ?_
        exact (awake_any _ tb).mono fun e w2 ⟨he, hb⟩ => ⟨_, he, Pred.ext_below hb hE.size, rfl⟩
      · intro b X hE hd hn hV
        have r71 : b.tmps[71]?.getD undef = .bool true := hV 51 _ 71 rfl rfl (Pred.waits_near (by kernel_rfl) (by kernel_rfl))
        have r72 : b.tmps[72]?.getD undef = .bool true := hV 52 _ 72 rfl rfl (Pred.waits_near (by kernel_rfl) (by kernel_rfl))
        exact Pred.yields_run (v := .bool true) (Pred.wanted_none rfl) (by go_simp) ⟨Pred.ext_refl _ _, rfl⟩
      · intro b X hE hd hn hV
        have r73 : b.tmps[73]?.getD undef = .bool true := hV 53 _ 73 rfl rfl (Pred.waits_near (by kernel_rfl) (by kernel_rfl))
        exact Pred.yields_run (v := .bool true) (Pred.wanted_none rfl) (by go_simp) ⟨Pred.ext_refl _ _, rfl⟩
    intro v X hE hv
    have e0 : v 0 = .agg #[.int .u8 (a0_0), .int .u8 (a0_1), .int .u8 (a0_2), .int .u8 (a0_3)] := hv 0 _ 20 rfl rfl
    have e1 : v 1 = .agg (gotV (a1_0) (a1_1) (a1_2) (a1_3) true) := hv 1 _ 21 rfl rfl
    have e2 : v 2 = .agg #[.int .u8 (a0_0), .int .u8 (a0_1), .int .u8 (a0_2), .int .u8 (a0_3)] := hv 2 _ 22 rfl rfl
    have e3 : v 3 = .agg #[.int .u8 (a0_0), .int .u8 (a0_1), .int .u8 (a0_2), .int .u8 (a0_3)] := hv 3 _ 23 rfl rfl
    have e4 : v 4 = .agg (gotV (a2_0) (a2_1) (a2_2) (a2_3) false) := hv 4 _ 24 rfl rfl
    have e5 : v 5 = .agg #[.int .u8 (a0_0), .int .u8 (a0_1), .int .u8 (a0_2), .int .u8 (a0_3)] := hv 5 _ 25 rfl rfl
    have e6 : v 6 = .bool true := hv 6 _ 26 rfl rfl
    have e7 : v 7 = .bool true := hv 7 _ 27 rfl rfl
    have e8 : v 8 = .agg #[.int .u8 (a0_0), .int .u8 (a0_1), .int .u8 (a0_2), .int .u8 (a0_3)] := hv 8 _ 28 rfl rfl
    have e9 : v 9 = .agg (gotV (a1_0) (a1_1) (a1_2) (a1_3) true) := hv 9 _ 29 rfl rfl
    have e10 : v 10 = .agg #[.int .u8 (a1_0), .int .u8 (a1_1), .int .u8 (a1_2), .int .u8 (a1_3)] := hv 10 _ 30 rfl rfl
    have e11 : v 11 = .agg #[.int .u8 (a1_0), .int .u8 (a1_1), .int .u8 (a1_2), .int .u8 (a1_3)] := hv 11 _ 31 rfl rfl
    have e12 : v 12 = .bool true := hv 12 _ 32 rfl rfl
    have e13 : v 13 = .bool true := hv 13 _ 33 rfl rfl
    have e14 : v 14 = .bool true := hv 14 _ 34 rfl rfl
    have e15 : v 15 = .agg #[.int .u8 (255), .int .u8 (255), .int .u8 (255), .int .u8 (255)] := hv 15 _ 35 rfl rfl
    have e16 : v 16 = .agg (gotV (a1_0) (a1_1) (a1_2) (a1_3) true) := hv 16 _ 36 rfl rfl
    have e17 : v 17 = .agg #[.int .u8 (a1_0), .int .u8 (a1_1), .int .u8 (a1_2), .int .u8 (a1_3)] := hv 17 _ 37 rfl rfl
    have e18 : v 18 = .agg #[.int .u8 (a1_0), .int .u8 (a1_1), .int .u8 (a1_2), .int .u8 (a1_3)] := hv 18 _ 38 rfl rfl
    have e19 : v 19 = .bool true := hv 19 _ 39 rfl rfl
    have e20 : v 20 = .bool true := hv 20 _ 40 rfl rfl
    have e21 : v 21 = .bool true := hv 21 _ 41 rfl rfl
    have e22 : v 22 = .agg #[.int .u8 (a0_0), .int .u8 (a0_1), .int .u8 (a0_2), .int .u8 (a0_3)] := hv 22 _ 42 rfl rfl
    have e23 : v 23 = .agg (gotV (a1_0) (a1_1) (a1_2) (a1_3) true) := hv 23 _ 43 rfl rfl
    have e24 : v 24 = .agg #[.int .u8 (timesB a1_0 a0_0), .int .u8 (timesB a1_1 a0_1), .int .u8 (timesB a1_2 a0_2), .int .u8 (timesB a1_3 a0_3)] := hv 24 _ 44 rfl rfl
    have e25 : v 25 = .agg #[.int .u8 (a1_0), .int .u8 (a1_1), .int .u8 (a1_2), .int .u8 (a1_3)] := hv 25 _ 45 rfl rfl
    have e26 : v 26 = .agg #[.int .u8 (a0_0), .int .u8 (a0_1), .int .u8 (a0_2), .int .u8 (a0_3)] := hv 26 _ 46 rfl rfl
    have e27 : v 27 = .agg #[.int .u8 (timesB a1_0 a0_0), .int .u8 (timesB a1_1 a0_1), .int .u8 (timesB a1_2 a0_2), .int .u8 (timesB a1_3 a0_3)] := hv 27 _ 47 rfl rfl
    have e28 : v 28 = .bool true := hv 28 _ 48 rfl rfl
    have e29 : v 29 = .bool true := hv 29 _ 49 rfl rfl
    have e30 : v 30 = .bool true := hv 30 _ 50 rfl rfl
    have e31 : v 31 = .agg #[.int .u8 (a0_0), .int .u8 (a0_1), .int .u8 (a0_2), .int .u8 (a0_3)] := hv 31 _ 51 rfl rfl
    have e32 : v 32 = .agg (gotV (a1_0) (a1_1) (a1_2) (a1_3) true) := hv 32 _ 52 rfl rfl
    have e33 : v 33 = .agg #[.int .u8 (255), .int .u8 (255), .int .u8 (255), .int .u8 (255)] := hv 33 _ 53 rfl rfl
    have e34 : v 34 = .agg #[.int .u8 (255), .int .u8 (255), .int .u8 (255), .int .u8 (255)] := hv 34 _ 54 rfl rfl
    have e35 : v 35 = .bool true := hv 35 _ 55 rfl rfl
    have e36 : v 36 = .bool true := hv 36 _ 56 rfl rfl
    have e37 : v 37 = .bool true := hv 37 _ 57 rfl rfl
    have e38 : v 38 = undef := hv 38 _ 58 rfl rfl
    have e39 : v 39 = undef := hv 39 _ 59 rfl rfl
    have e40 : v 40 = undef := hv 40 _ 60 rfl rfl
    have e41 : v 41 = .bool true := hv 41 _ 61 rfl rfl
    have e42 : v 42 = .bool true := hv 42 _ 62 rfl rfl
    have e43 : v 43 = .bool true := hv 43 _ 63 rfl rfl
    have e44 : v 44 = .bool true := hv 44 _ 64 rfl rfl
    have e45 : v 45 = .agg #[.int .u8 (a0_0), .int .u8 (a0_1), .int .u8 (a0_2), .int .u8 (a0_3)] := hv 45 _ 65 rfl rfl
    have e46 : v 46 = .agg (gotV (a1_0) (a1_1) (a1_2) (a1_3) true) := hv 46 _ 66 rfl rfl
    have e47 : v 47 = .agg #[.int .u8 (0), .int .u8 (0), .int .u8 (0), .int .u8 (0)] := hv 47 _ 67 rfl rfl
    have e48 : v 48 = .agg #[.int .u8 (0), .int .u8 (0), .int .u8 (0), .int .u8 (0)] := hv 48 _ 68 rfl rfl
    have e49 : v 49 = .bool true := hv 49 _ 69 rfl rfl
    have e50 : v 50 = .bool true := hv 50 _ 70 rfl rfl
    have e51 : v 51 = .bool true := hv 51 _ 71 rfl rfl
    have e52 : v 52 = .bool true := hv 52 _ 72 rfl rfl
    have e53 : v 53 = .bool true := hv 53 _ 73 rfl rfl
    have e54 : v 54 = .bool true := hv 54 _ 8 rfl rfl
    simp only [Pred.putsF_cons, Pred.putsF_nil, Nat.zero_add, Nat.reduceAdd, e0, e1, e2, e3, e4, e5, e6, e7, e8, e9, e10, e11, e12, e13, e14, e15, e16, e17, e18, e19, e20, e21, e22, e23, e24, e25, e26, e27, e28, e29, e30, e31, e32, e33, e34, e35, e36, e37, e38, e39, e40, e41, e42, e43, e44, e45, e46, e47, e48, e49, e50, e51, e52, e53, e54, Act.put, List.setIfInBounds_toArray, List.set_cons_zero, List.set_cons_succ]
    clear e0 e1 e2 e3 e4 e5 e6 e7 e8 e9 e10 e11 e12 e13 e14 e15 e16 e17 e18 e19 e20 e21 e22 e23 e24 e25 e26 e27 e28 e29 e30 e31 e32 e33 e34 e35 e36 e37 e38 e39 e40 e41 e42 e43 e44 e45 e46 e47 e48 e49 e50 e51 e52 e53 e54 hv
    have sX2 := hE.size
    have L4 : Below w.heap.size w X := L3.trans (hE.mono L3.size)
    go_wp2
    go_ret
    exact ⟨rfl, L4⟩
end Go.Proofs.YtbogcaiobdhmjaaDoor.ShD
