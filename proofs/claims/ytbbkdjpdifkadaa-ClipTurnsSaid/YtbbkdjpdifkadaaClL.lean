/-
  ClipTells.
-/
import Derived.Test.YtbbkdjpdifkadaaClJ
import Derived.Test.YtbbkdjpdifkadaaClH
import Derived.BigGuard
namespace Go.Proofs.Ytbbkdjpdifkadaa.ClL
open Go.RowKit FixA Num Rd Go.Proofs.Ytbbkdjpdifkadaa.Row Mid ClM ClA ClB ClC ClD ClE ClF ClG ClI ClJ ClH
open Go.Proofs.Ytbbkdjpdifkadaa.Pred (Is is_stab Stab)
set_option linter.unusedVariables false
set_option linter.unusedSimpArgs false
set_option maxRecDepth 10000
attribute [local go_sem] pc6 pc4
attribute [local go_sem ↓] store_vx eq_vec4 eq_vx6
attribute [local go_sem] one_int run_load_vec run_load_vx run_store_vx rowLoad_eq rowStore_eq midLoad_eq pc_vec pc_vx blk_alloc_at blk_alloc_old blk_drew blk_drewN blk_set_far blk_set_far' blk_grow setRow_alloc_at setRow_alloc_old setRow_drew setRow_drewN
attribute [local go_sem high] run_maxT run_minT

theorem eqL_self (xs : List Int) : eqL xs xs = true := decide_eq_true rfl
attribute [local go_sem] eqL_self
theorem polyV_small {row : ClM.Row} (h : row.length ≤ 100) : (polyV row).length ≤ 1000000 := by
  have := wK_small row h 7 (by omega)
  unfold polyV
  generalize wK row 7 = R at this ⊢
  by_cases a : row.length < 3
  · rw [if_pos a]; simp
  · rw [if_neg a]
    by_cases b : R.length < 3
    · rw [if_pos b]; simp
    · rw [if_neg b]; omega
/-- where vertex j of a row lies -/
theorem row_cells {W : World} {ad : Option Addr} {row : ClM.Row} (h : RowAt W ad row) {j : Nat} (hj : j < row.length) : ∃ b o, ad = some ⟨b, o, none⟩ ∧ b < W.heap.size := by
  rcases h.2 with h2 | ⟨b, o, e, hb, _⟩
  · rw [h2] at hj; simp at hj
  · exact ⟨b, o, e, hb⟩
theorem row_cell {W : World} {b o : Nat} {row : ClM.Row} (h : RowAt W (some ⟨b, o, none⟩) row) {j : Nat} (hj : j < row.length) : ∀ t, t < 6 → W.cell? ⟨b, o + j * 6 + t, none⟩ = some (.int .i64 (ClM.g (at_ row j) t)) := by
  rcases h.2 with h2 | ⟨b', o', e, hb, hc⟩
  · rw [h2] at hj; simp at hj
  · simp only [Option.some.injEq, Addr.mk.injEq, and_true] at e
    obtain ⟨rfl, rfl⟩ := e
    exact hc j hj
set_option maxHeartbeats 4000000 in
theorem tells_gen (row : ClM.Row) (ad : Option Addr) (c : Nat) (p : Int) (w : World) (h : RowAt w ad row) (hl : row.length ≤ maxLen) :
    Calls Try.prog 3 #[.slice ad row.length c, .int .i64 p] w fun e w' => e = .returned (.bool true) ∧ Below w.heap.size w w' := by
  obtain ⟨n, hn⟩ : ∃ n, row.length = n := ⟨_, rfl⟩
  have HN := Lib.hid hn
  have H := Lib.hid h
  rw [hn]
  rw [hn] at hl
  have hl2 : n ≤ 9223372036854775807 := by unfold maxLen at hl; omega
  by_cases hbig : 12 < n
  · have d1 : decide ((12 : Int) < (n : Int)) = true := decide_eq_true (by omega)
    clear hn h
    go_enter Try.func3, Try.ntmps3
    go_wp2_with fail
    refine (awake_any _).mono ?_
    rintro e w9 ⟨rfl, hb9⟩
    have L9 : Below w.heap.size w w9 := by repeat' (first | (with_reducible exact Below.refl _ _) | (with_reducible refine Rd.below_step ?_ (by assumption)) | (with_reducible refine Rd.below_alloc ?_ _) | (with_reducible refine Rd.below_drewN ?_ _) | (with_reducible refine Below.drew ?_) | (with_reducible refine Below.setCell ?_ ?_ _) | (with_reducible refine Rd.below_setRow ?_ ?_ _) | go_size | (simp only [World.size_alloc]; omega) | omega)
    go_wp2
    go_ret
    exact ⟨rfl, L9⟩
  have d1 : decide ((12 : Int) < (n : Int)) = false := decide_eq_false (by omega)
  have hn12 : n ≤ 12 := by omega
  have hF := far_any row ad c w h (by omega)
  rw [hn] at hF
  have HF := Lib.hid hF
  clear hF hn h hbig hl
  go_enter Try.func3, Try.ntmps3
  go_wp2_with fail
  refine HF.out.mono ?_
  rintro e w1 ⟨⟨b, rfl, hfar⟩, hb⟩
  have L1 : Below w.heap.size w w1 := by repeat' (first | (with_reducible exact Below.refl _ _) | (with_reducible refine Rd.below_step ?_ (by assumption)) | (with_reducible refine Rd.below_alloc ?_ _) | (with_reducible refine Rd.below_drewN ?_ _) | (with_reducible refine Below.drew ?_) | (with_reducible refine Below.setCell ?_ ?_ _) | (with_reducible refine Rd.below_setRow ?_ ?_ _) | go_size | (simp only [World.size_alloc]; omega) | omega)
  cases b with
  | true =>
    clear HF hfar hb
    go_wp2_with fail
    refine (awake_any _).mono ?_
    rintro e w9 ⟨rfl, hb9⟩
    have L9 : Below w.heap.size w w9 := by repeat' (first | (with_reducible exact Below.refl _ _) | (with_reducible refine Rd.below_step ?_ (by assumption)) | (with_reducible refine Rd.below_alloc ?_ _) | (with_reducible refine Rd.below_drewN ?_ _) | (with_reducible refine Below.drew ?_) | (with_reducible refine Below.setCell ?_ ?_ _) | (with_reducible refine Rd.below_setRow ?_ ?_ _) | go_size | (simp only [World.size_alloc]; omega) | omega)
    go_wp2
    go_ret
    exact ⟨rfl, L9⟩
  | false =>
    have HV : Hid (VxR row) := Lib.hid (hfar rfl)
    have H1 : Hid (RowAt w1 ad row) := Lib.hid (RowAt.below (B := 0) H.out hb)
    clear HF hfar hb
    go_wp2_with fail
    go_loopw [5] (fun i W => ∃ j : Nat, j ≤ n ∧ i = .int .i64 j ∧ Below w1.heap.size w1 W) (fun i _ => n - (intOf i).toNat)
    case atStart => exact ⟨0, by omega, rfl, by repeat' (first | (with_reducible exact Below.refl _ _) | (with_reducible refine Rd.below_step ?_ (by assumption)) | (with_reducible refine Rd.below_alloc ?_ _) | (with_reducible refine Rd.below_drewN ?_ _) | (with_reducible refine Below.drew ?_) | (with_reducible refine Below.setCell ?_ ?_ _) | (with_reducible refine Rd.below_setRow ?_ ?_ _) | go_size | (simp only [World.size_alloc]; omega) | omega)⟩
    case round =>
      rename World => W
      obtain ⟨j, hj, rfl, hbW⟩ := hrel
      have HW := Lib.hid (RowAt.below (B := 0) H1.out hbW)
      have LW : Below w.heap.size w W := L1.trans (hbW.mono L1.size)
      by_cases hjn : j < n
      · have hjn' : (j : Int) < n := by omega
        obtain ⟨q, hq⟩ : ∃ q, (j + 1) % n = q := ⟨_, rfl⟩
        have hqn : q < n := by rw [← hq]; exact Nat.mod_lt _ (by omega)
        have hqn' : (q : Int) < n := by omega
        have hm0 : ¬ ((n : Int) = 0) := by omega
        have hq1 : ((j : Int) + 1) % (n : Int) = (q : Int) := by exact_mod_cast hq
        have hq2 : ((j : Int) + 1).tmod (n : Int) = (q : Int) := by rw [Int.tmod_eq_emod_of_nonneg (by omega)]; exact hq1
        obtain ⟨bk, o, ea, hb0⟩ := row_cells HW.out (j := j) (by rw [HN.out]; exact hjn)
        subst ea
        have va := at_vx HV.out (i := j) (by rw [HN.out]; exact hjn)
        have vb := at_vx HV.out (i := q) (by rw [HN.out]; exact hqn)
        have ca := row_cell HW.out (j := j) (by rw [HN.out]; exact hjn)
        have cb := row_cell HW.out (j := q) (by rw [HN.out]; exact hqn)
        obtain ⟨x0, x1, x2, x3, x4, x5, eA⟩ := len6 va.len
        obtain ⟨y0, y1, y2, y3, y4, y5, eB⟩ := len6 vb.len
        rw [eA] at va ca
        rw [eB] at vb cb
        have VA := Lib.hid va
        have VB := Lib.hid vb
        have kb0 : W.cell? ⟨bk, o + q * 6, none⟩ = some (.int .i64 y0) := cb 0 (by omega)
        have kb1 : W.cell? ⟨bk, o + q * 6 + 1, none⟩ = some (.int .i64 y1) := cb 1 (by omega)
        have kb2 : W.cell? ⟨bk, o + q * 6 + 2, none⟩ = some (.int .i64 y2) := cb 2 (by omega)
        have kb3 : W.cell? ⟨bk, o + q * 6 + 3, none⟩ = some (.int .i64 y3) := cb 3 (by omega)
        have kb4 : W.cell? ⟨bk, o + q * 6 + 4, none⟩ = some (.int .i64 y4) := cb 4 (by omega)
        have kb5 : W.cell? ⟨bk, o + q * 6 + 5, none⟩ = some (.int .i64 y5) := cb 5 (by omega)
        have CEA : Hid (∀ X : World, Below W.heap.size W X → ∀ t, t < 6 → X.cell? ⟨bk, o + j * 6 + t, none⟩ = some (.int .i64 (ClM.g [x0, x1, x2, x3, x4, x5] t))) := Lib.hid fun X hX t ht => (hX.cell (p := ⟨bk, o + j * 6 + t, none⟩) hb0).trans (ca t ht)
        obtain ⟨d, ed⟩ : ∃ d, insV [x0, x1, x2, x3, x4, x5] p = d := ⟨_, rfl⟩
        have CI : Hid (∀ W : World, Calls Try.prog 9 #[.agg #[.int .i64 x0, .int .i64 x1, .int .i64 x2, .int .i64 x3], .int .i64 p] W fun e w' => e = .returned (.int .i64 d) ∧ Below W.heap.size W w') := Lib.hid fun W => by have h := inside_v VA.out p W; rw [ed] at h; exact h
        have CR : Hid (∀ W : World, Calls Try.prog 10 #[.agg #[.int .i64 x0, .int .i64 x1, .int .i64 x2, .int .i64 x3], .int .i64 p] W fun e w' => e = .returned (.int .i64 d) ∧ Below W.heap.size W w') := Lib.hid fun W => by have h := rinside_v VA.out p W; rw [ed] at h; exact h
        obtain ⟨c0, c1, c2, c3, c4, c5, ec⟩ := len6 (show (cutV [x0, x1, x2, x3, x4, x5] [y0, y1, y2, y3, y4, y5] p).length = 6 from rfl)
        have CC : Hid (∀ W : World, Calls Try.prog 11 #[.agg #[.int .i64 x0, .int .i64 x1, .int .i64 x2, .int .i64 x3, .int .i64 x4, .int .i64 x5], .agg #[.int .i64 y0, .int .i64 y1, .int .i64 y2, .int .i64 y3, .int .i64 y4, .int .i64 y5], .int .i64 p] W fun e w' => e = .returned (.agg #[.int .i64 c0, .int .i64 c1, .int .i64 c2, .int .i64 c3, .int .i64 c4, .int .i64 c5]) ∧ Below W.heap.size W w') := Lib.hid fun W => by have h := cut_any [x0, x1, x2, x3, x4, x5] [y0, y1, y2, y3, y4, y5] VA.out VB.out p W; rw [ec] at h; exact h
        have CD : Hid (∀ W : World, Calls Try.prog 12 #[.agg #[.int .i64 x0, .int .i64 x1, .int .i64 x2, .int .i64 x3, .int .i64 x4, .int .i64 x5], .agg #[.int .i64 y0, .int .i64 y1, .int .i64 y2, .int .i64 y3, .int .i64 y4, .int .i64 y5], .int .i64 p] W fun e w' => e = .returned (.agg #[.int .i64 c0, .int .i64 c1, .int .i64 c2, .int .i64 c3, .int .i64 c4, .int .i64 c5]) ∧ Below W.heap.size W w') := Lib.hid fun W => by have h := rcut_any [x0, x1, x2, x3, x4, x5] [y0, y1, y2, y3, y4, y5] VA.out VB.out p W; rw [ec] at h; exact h
        have hWs := hbW.size
        clear va vb eA eB ca cb ed ec hq
        go_upto_region 7 with (fail)
        refine Rd.name_world ?_
        intro w2 hw
        have b6 : blk w2 W.heap.size = some (.cells #[.int .i64 y0, .int .i64 y1, .int .i64 y2, .int .i64 y3, .int .i64 y4, .int .i64 y5] 28 (0, 0)) := by rw [hw]; exact blk_alloc_at _ _ _ rfl
        have l6 := blk_lt b6
        have L2 : Below w1.heap.size w1 w2 := by
          rw [hw]
          exact hbW.alloc hbW.size _
        have LWX : Below W.heap.size W w2 := by
          rw [hw]
          exact (Below.refl _ _).alloc (Nat.le_refl _) _
        clear hw kb0 kb1 kb2 kb3 kb4 kb5
        refine Pred.region_vals (Pred.Of [
            Is (.slice (some ⟨bk, o, none⟩) n c),
            Is (.int .i64 (j : Int)),
            Is (.pointer (some ⟨bk, o + j * 6, none⟩)),
            Is (.pointer (some ⟨bk, o + j * 6, none⟩)),
            Is (.agg #[.int .i64 x0, .int .i64 x1, .int .i64 x2, .int .i64 x3]),
            Is (.int .i64 p),
            Is (.int .i64 d),
            Is (.slice (some ⟨bk, o, none⟩) n c),
            Is (.int .i64 (j : Int)),
            Is (.pointer (some ⟨bk, o + j * 6, none⟩)),
            Is (.pointer (some ⟨bk, o + j * 6, none⟩)),
            Is (.agg #[.int .i64 x0, .int .i64 x1, .int .i64 x2, .int .i64 x3]),
            Is (.int .i64 p),
            Is (.int .i64 d),
            Is (.bool false),
            Is (.bool false),
            Is (.slice (some ⟨bk, o, none⟩) n c),
            Is (.int .i64 (j : Int)),
            Is (.pointer (some ⟨bk, o + j * 6, none⟩)),
            Is (.agg #[.int .i64 x0, .int .i64 x1, .int .i64 x2, .int .i64 x3, .int .i64 x4, .int .i64 x5]),
            Is (.agg #[.int .i64 y0, .int .i64 y1, .int .i64 y2, .int .i64 y3, .int .i64 y4, .int .i64 y5]),
            Is (.int .i64 p),
            Is (.agg #[.int .i64 c0, .int .i64 c1, .int .i64 c2, .int .i64 c3, .int .i64 c4, .int .i64 c5]),
            Is (.slice (some ⟨bk, o, none⟩) n c),
            Is (.int .i64 (j : Int)),
            Is (.pointer (some ⟨bk, o + j * 6, none⟩)),
            Is (.agg #[.int .i64 x0, .int .i64 x1, .int .i64 x2, .int .i64 x3, .int .i64 x4, .int .i64 x5]),
            Is (.agg #[.int .i64 y0, .int .i64 y1, .int .i64 y2, .int .i64 y3, .int .i64 y4, .int .i64 y5]),
            Is (.int .i64 p),
            Is (.agg #[.int .i64 c0, .int .i64 c1, .int .i64 c2, .int .i64 c3, .int .i64 c4, .int .i64 c5]),
            Is (.bool false),
            Is (.bool false)]) (by kernel_rfl) (by kernel_rfl) (by kernel_rfl) (Pred.of_stab ?_) ?_ ?_
        · exact ⟨is_stab _, is_stab _, is_stab _, is_stab _, is_stab _, is_stab _, is_stab _, is_stab _, is_stab _, is_stab _, is_stab _, is_stab _, is_stab _, is_stab _, is_stab _, is_stab _, is_stab _, is_stab _, is_stab _, is_stab _, is_stab _, is_stab _, is_stab _, is_stab _, is_stab _, is_stab _, is_stab _, is_stab _, is_stab _, is_stab _, is_stab _, is_stab _, trivial⟩
        · refine ⟨?_, ?_, ?_, ?_, ?_, ?_, ?_, ?_, ?_, ?_, ?_, ?_, ?_, ?_, ?_, ?_, ?_, ?_, ?_, ?_, ?_, ?_, ?_, ?_, ?_, ?_, ?_, ?_, ?_, ?_, ?_, ?_, trivial⟩
          · intro b X hE hd hn hV
            have r0 : b.tmps[0]?.getD undef = .slice (some ⟨bk, o, none⟩) n c := (hn 0 (by kernel_rfl)).trans rfl
            exact Pred.yields_run (v := .slice (some ⟨bk, o, none⟩) n c) (Pred.wanted_none rfl) (by go_simp) ⟨Pred.ext_refl _ _, rfl⟩
          · intro b X hE hd hn hV
            have r5 : b.tmps[5]?.getD undef = .int .i64 (j : Int) := (hn 5 (by kernel_rfl)).trans rfl
            exact Pred.yields_run (v := .int .i64 (j : Int)) (Pred.wanted_none rfl) (by go_simp) ⟨Pred.ext_refl _ _, rfl⟩
          · intro b X hE hd hn hV
            have r29 : b.tmps[29]?.getD undef = .slice (some ⟨bk, o, none⟩) n c := hV 0 _ 29 rfl rfl (Pred.waits_near (by kernel_rfl) (by kernel_rfl))
            have r30 : b.tmps[30]?.getD undef = .int .i64 (j : Int) := hV 1 _ 30 rfl rfl (Pred.waits_near (by kernel_rfl) (by kernel_rfl))
            exact Pred.yields_run (v := .pointer (some ⟨bk, o + j * 6, none⟩)) (Pred.wanted_none rfl) (by go_simp) ⟨Pred.ext_refl _ _, rfl⟩
          · intro b X hE hd hn hV
            have r31 : b.tmps[31]?.getD undef = .pointer (some ⟨bk, o + j * 6, none⟩) := hV 2 _ 31 rfl rfl (Pred.waits_near (by kernel_rfl) (by kernel_rfl))
            exact Pred.yields_run (v := .pointer (some ⟨bk, o + j * 6, none⟩)) (Pred.wanted_none rfl) (by go_simp) ⟨Pred.ext_refl _ _, rfl⟩
          · intro b X hE hd hn hV
            have r32 : b.tmps[32]?.getD undef = .pointer (some ⟨bk, o + j * 6, none⟩) := hV 3 _ 32 rfl rfl (Pred.waits_near (by kernel_rfl) (by kernel_rfl))
            have hEX : Below W.heap.size W X := LWX.trans (hE.mono LWX.size)
            have k0 : X.cell? ⟨bk, o + j * 6, none⟩ = some (.int .i64 x0) := CEA.out X hEX 0 (by omega)
            have k1 : X.cell? ⟨bk, o + j * 6 + 1, none⟩ = some (.int .i64 x1) := CEA.out X hEX 1 (by omega)
            have k2 : X.cell? ⟨bk, o + j * 6 + 2, none⟩ = some (.int .i64 x2) := CEA.out X hEX 2 (by omega)
            have k3 : X.cell? ⟨bk, o + j * 6 + 3, none⟩ = some (.int .i64 x3) := CEA.out X hEX 3 (by omega)
            exact Pred.yields_run (v := .agg #[.int .i64 x0, .int .i64 x1, .int .i64 x2, .int .i64 x3]) (Pred.wanted_none rfl) (by go_simp) ⟨Pred.ext_refl _ _, rfl⟩
          · intro b X hE hd hn hV
            have r1 : b.tmps[1]?.getD undef = .int .i64 p := (hn 1 (by kernel_rfl)).trans rfl
            exact Pred.yields_run (v := .int .i64 p) (Pred.wanted_none rfl) (by go_simp) ⟨Pred.ext_refl _ _, rfl⟩
          · intro b X hE hd hn hV
            have r33 : b.tmps[33]?.getD undef = .agg #[.int .i64 x0, .int .i64 x1, .int .i64 x2, .int .i64 x3] := hV 4 _ 33 rfl rfl (Pred.waits_near (by kernel_rfl) (by kernel_rfl))
            have r34 : b.tmps[34]?.getD undef = .int .i64 p := hV 5 _ 34 rfl rfl (Pred.waits_near (by kernel_rfl) (by kernel_rfl))
            refine Pred.yields_call (f := 9) (args := #[.agg #[.int .i64 x0, .int .i64 x1, .int .i64 x2, .int .i64 x3], .int .i64 p]) (Pred.wanted_none rfl) (by go_simp) ?_
            exact (CI.out _).mono fun e w2 ⟨he, hb⟩ => ⟨_, he, Pred.ext_below hb hE.size, rfl⟩
          · intro b X hE hd hn hV
            have r0 : b.tmps[0]?.getD undef = .slice (some ⟨bk, o, none⟩) n c := (hn 0 (by kernel_rfl)).trans rfl
            exact Pred.yields_run (v := .slice (some ⟨bk, o, none⟩) n c) (Pred.wanted_none rfl) (by go_simp) ⟨Pred.ext_refl _ _, rfl⟩
          · intro b X hE hd hn hV
            have r5 : b.tmps[5]?.getD undef = .int .i64 (j : Int) := (hn 5 (by kernel_rfl)).trans rfl
            exact Pred.yields_run (v := .int .i64 (j : Int)) (Pred.wanted_none rfl) (by go_simp) ⟨Pred.ext_refl _ _, rfl⟩
          · intro b X hE hd hn hV
            have r36 : b.tmps[36]?.getD undef = .slice (some ⟨bk, o, none⟩) n c := hV 7 _ 36 rfl rfl (Pred.waits_near (by kernel_rfl) (by kernel_rfl))
            have r37 : b.tmps[37]?.getD undef = .int .i64 (j : Int) := hV 8 _ 37 rfl rfl (Pred.waits_near (by kernel_rfl) (by kernel_rfl))
            exact Pred.yields_run (v := .pointer (some ⟨bk, o + j * 6, none⟩)) (Pred.wanted_none rfl) (by go_simp) ⟨Pred.ext_refl _ _, rfl⟩
          · intro b X hE hd hn hV
            have r38 : b.tmps[38]?.getD undef = .pointer (some ⟨bk, o + j * 6, none⟩) := hV 9 _ 38 rfl rfl (Pred.waits_near (by kernel_rfl) (by kernel_rfl))
            exact Pred.yields_run (v := .pointer (some ⟨bk, o + j * 6, none⟩)) (Pred.wanted_none rfl) (by go_simp) ⟨Pred.ext_refl _ _, rfl⟩
          · intro b X hE hd hn hV
            have r39 : b.tmps[39]?.getD undef = .pointer (some ⟨bk, o + j * 6, none⟩) := hV 10 _ 39 rfl rfl (Pred.waits_near (by kernel_rfl) (by kernel_rfl))
            have hEX : Below W.heap.size W X := LWX.trans (hE.mono LWX.size)
            have k0 : X.cell? ⟨bk, o + j * 6, none⟩ = some (.int .i64 x0) := CEA.out X hEX 0 (by omega)
            have k1 : X.cell? ⟨bk, o + j * 6 + 1, none⟩ = some (.int .i64 x1) := CEA.out X hEX 1 (by omega)
            have k2 : X.cell? ⟨bk, o + j * 6 + 2, none⟩ = some (.int .i64 x2) := CEA.out X hEX 2 (by omega)
            have k3 : X.cell? ⟨bk, o + j * 6 + 3, none⟩ = some (.int .i64 x3) := CEA.out X hEX 3 (by omega)
            exact Pred.yields_run (v := .agg #[.int .i64 x0, .int .i64 x1, .int .i64 x2, .int .i64 x3]) (Pred.wanted_none rfl) (by go_simp) ⟨Pred.ext_refl _ _, rfl⟩
          · intro b X hE hd hn hV
            have r1 : b.tmps[1]?.getD undef = .int .i64 p := (hn 1 (by kernel_rfl)).trans rfl
            exact Pred.yields_run (v := .int .i64 p) (Pred.wanted_none rfl) (by go_simp) ⟨Pred.ext_refl _ _, rfl⟩
          · intro b X hE hd hn hV
            have r40 : b.tmps[40]?.getD undef = .agg #[.int .i64 x0, .int .i64 x1, .int .i64 x2, .int .i64 x3] := hV 11 _ 40 rfl rfl (Pred.waits_near (by kernel_rfl) (by kernel_rfl))
            have r41 : b.tmps[41]?.getD undef = .int .i64 p := hV 12 _ 41 rfl rfl (Pred.waits_near (by kernel_rfl) (by kernel_rfl))
            refine Pred.yields_call (f := 10) (args := #[.agg #[.int .i64 x0, .int .i64 x1, .int .i64 x2, .int .i64 x3], .int .i64 p]) (Pred.wanted_none rfl) (by go_simp) ?_
            exact (CR.out _).mono fun e w2 ⟨he, hb⟩ => ⟨_, he, Pred.ext_below hb hE.size, rfl⟩
          · intro b X hE hd hn hV
            have r35 : b.tmps[35]?.getD undef = .int .i64 d := hV 6 _ 35 rfl rfl (Pred.waits_near (by kernel_rfl) (by kernel_rfl))
            have r42 : b.tmps[42]?.getD undef = .int .i64 d := hV 13 _ 42 rfl rfl (Pred.waits_near (by kernel_rfl) (by kernel_rfl))
            exact Pred.yields_run (v := .bool false) (Pred.wanted_none rfl) (by go_simp) ⟨Pred.ext_refl _ _, rfl⟩
          · intro b X hE hd hn hV
            have r43 : b.tmps[43]?.getD undef = .bool false := hV 14 _ 43 rfl rfl (Pred.waits_near (by kernel_rfl) (by kernel_rfl))
            exact Pred.yields_run (v := .bool false) (Pred.wanted_none rfl) (by go_simp) ⟨Pred.ext_refl _ _, rfl⟩
          · intro b X hE hd hn hV
            have r0 : b.tmps[0]?.getD undef = .slice (some ⟨bk, o, none⟩) n c := (hn 0 (by kernel_rfl)).trans rfl
            have r44 : b.tmps[44]?.getD undef = .bool false := hV 15 _ 44 rfl rfl (Pred.waits_near (by kernel_rfl) (by kernel_rfl))
            exact Pred.yields_run (v := .slice (some ⟨bk, o, none⟩) n c) ((Pred.wanted_at (g := 15) (d := 44) (f := false) rfl rfl r44).trans rfl) (by go_simp) ⟨Pred.ext_refl _ _, rfl⟩
          · intro b X hE hd hn hV
            have r5 : b.tmps[5]?.getD undef = .int .i64 (j : Int) := (hn 5 (by kernel_rfl)).trans rfl
            have r44 : b.tmps[44]?.getD undef = .bool false := hV 15 _ 44 rfl rfl (Pred.waits_near (by kernel_rfl) (by kernel_rfl))
            exact Pred.yields_run (v := .int .i64 (j : Int)) ((Pred.wanted_at (g := 15) (d := 44) (f := false) rfl rfl r44).trans rfl) (by go_simp) ⟨Pred.ext_refl _ _, rfl⟩
          · intro b X hE hd hn hV
            have r45 : b.tmps[45]?.getD undef = .slice (some ⟨bk, o, none⟩) n c := hV 16 _ 45 rfl rfl (Pred.waits_near (by kernel_rfl) (by kernel_rfl))
            have r46 : b.tmps[46]?.getD undef = .int .i64 (j : Int) := hV 17 _ 46 rfl rfl (Pred.waits_near (by kernel_rfl) (by kernel_rfl))
            have r44 : b.tmps[44]?.getD undef = .bool false := hV 15 _ 44 rfl rfl (Pred.waits_near (by kernel_rfl) (by kernel_rfl))
            exact Pred.yields_run (v := .pointer (some ⟨bk, o + j * 6, none⟩)) ((Pred.wanted_at (g := 15) (d := 44) (f := false) rfl rfl r44).trans rfl) (by go_simp) ⟨Pred.ext_refl _ _, rfl⟩
          · intro b X hE hd hn hV
            have r47 : b.tmps[47]?.getD undef = .pointer (some ⟨bk, o + j * 6, none⟩) := hV 18 _ 47 rfl rfl (Pred.waits_near (by kernel_rfl) (by kernel_rfl))
            have r44 : b.tmps[44]?.getD undef = .bool false := hV 15 _ 44 rfl rfl (Pred.waits_near (by kernel_rfl) (by kernel_rfl))
            have hEX : Below W.heap.size W X := LWX.trans (hE.mono LWX.size)
            have k0 : X.cell? ⟨bk, o + j * 6, none⟩ = some (.int .i64 x0) := CEA.out X hEX 0 (by omega)
            have k1 : X.cell? ⟨bk, o + j * 6 + 1, none⟩ = some (.int .i64 x1) := CEA.out X hEX 1 (by omega)
            have k2 : X.cell? ⟨bk, o + j * 6 + 2, none⟩ = some (.int .i64 x2) := CEA.out X hEX 2 (by omega)
            have k3 : X.cell? ⟨bk, o + j * 6 + 3, none⟩ = some (.int .i64 x3) := CEA.out X hEX 3 (by omega)
            have k4 : X.cell? ⟨bk, o + j * 6 + 4, none⟩ = some (.int .i64 x4) := CEA.out X hEX 4 (by omega)
            have k5 : X.cell? ⟨bk, o + j * 6 + 5, none⟩ = some (.int .i64 x5) := CEA.out X hEX 5 (by omega)
            exact Pred.yields_run (v := .agg #[.int .i64 x0, .int .i64 x1, .int .i64 x2, .int .i64 x3, .int .i64 x4, .int .i64 x5]) ((Pred.wanted_at (g := 15) (d := 44) (f := false) rfl rfl r44).trans rfl) (by go_simp) ⟨Pred.ext_refl _ _, rfl⟩
          · intro b X hE hd hn hV
            have r6 : b.tmps[6]?.getD undef = .pointer (some ⟨W.heap.size, 0, none⟩) := (hn 6 (by kernel_rfl)).trans rfl
            have r44 : b.tmps[44]?.getD undef = .bool false := hV 15 _ 44 rfl rfl (Pred.waits_near (by kernel_rfl) (by kernel_rfl))
            have q := (blk_below hE _ l6).trans b6
            have k0 : X.cell? ⟨W.heap.size, 0, none⟩ = some (.int .i64 y0) := by rw [blk_cell q]; rfl
            have k1 : X.cell? ⟨W.heap.size, 1, none⟩ = some (.int .i64 y1) := by rw [blk_cell q]; rfl
            have k2 : X.cell? ⟨W.heap.size, 2, none⟩ = some (.int .i64 y2) := by rw [blk_cell q]; rfl
            have k3 : X.cell? ⟨W.heap.size, 3, none⟩ = some (.int .i64 y3) := by rw [blk_cell q]; rfl
            have k4 : X.cell? ⟨W.heap.size, 4, none⟩ = some (.int .i64 y4) := by rw [blk_cell q]; rfl
            have k5 : X.cell? ⟨W.heap.size, 5, none⟩ = some (.int .i64 y5) := by rw [blk_cell q]; rfl
            clear q
            exact Pred.yields_run (v := .agg #[.int .i64 y0, .int .i64 y1, .int .i64 y2, .int .i64 y3, .int .i64 y4, .int .i64 y5]) ((Pred.wanted_at (g := 15) (d := 44) (f := false) rfl rfl r44).trans rfl) (by go_simp) ⟨Pred.ext_refl _ _, rfl⟩
          · intro b X hE hd hn hV
            have r1 : b.tmps[1]?.getD undef = .int .i64 p := (hn 1 (by kernel_rfl)).trans rfl
            have r44 : b.tmps[44]?.getD undef = .bool false := hV 15 _ 44 rfl rfl (Pred.waits_near (by kernel_rfl) (by kernel_rfl))
            exact Pred.yields_run (v := .int .i64 p) ((Pred.wanted_at (g := 15) (d := 44) (f := false) rfl rfl r44).trans rfl) (by go_simp) ⟨Pred.ext_refl _ _, rfl⟩
          · intro b X hE hd hn hV
            have r48 : b.tmps[48]?.getD undef = .agg #[.int .i64 x0, .int .i64 x1, .int .i64 x2, .int .i64 x3, .int .i64 x4, .int .i64 x5] := hV 19 _ 48 rfl rfl (Pred.waits_near (by kernel_rfl) (by kernel_rfl))
            have r49 : b.tmps[49]?.getD undef = .agg #[.int .i64 y0, .int .i64 y1, .int .i64 y2, .int .i64 y3, .int .i64 y4, .int .i64 y5] := hV 20 _ 49 rfl rfl (Pred.waits_near (by kernel_rfl) (by kernel_rfl))
            have r50 : b.tmps[50]?.getD undef = .int .i64 p := hV 21 _ 50 rfl rfl (Pred.waits_near (by kernel_rfl) (by kernel_rfl))
            have r44 : b.tmps[44]?.getD undef = .bool false := hV 15 _ 44 rfl rfl (Pred.waits_near (by kernel_rfl) (by kernel_rfl))
            refine Pred.yields_call (f := 11) (args := #[.agg #[.int .i64 x0, .int .i64 x1, .int .i64 x2, .int .i64 x3, .int .i64 x4, .int .i64 x5], .agg #[.int .i64 y0, .int .i64 y1, .int .i64 y2, .int .i64 y3, .int .i64 y4, .int .i64 y5], .int .i64 p]) ((Pred.wanted_at (g := 15) (d := 44) (f := false) rfl rfl r44).trans rfl) (by go_simp) ?_
            exact (CC.out _).mono fun e w2 ⟨he, hb⟩ => ⟨_, he, Pred.ext_below hb hE.size, rfl⟩
          · intro b X hE hd hn hV
            have r0 : b.tmps[0]?.getD undef = .slice (some ⟨bk, o, none⟩) n c := (hn 0 (by kernel_rfl)).trans rfl
            have r44 : b.tmps[44]?.getD undef = .bool false := hV 15 _ 44 rfl rfl (Pred.waits_near (by kernel_rfl) (by kernel_rfl))
            exact Pred.yields_run (v := .slice (some ⟨bk, o, none⟩) n c) ((Pred.wanted_at (g := 15) (d := 44) (f := false) rfl rfl r44).trans rfl) (by go_simp) ⟨Pred.ext_refl _ _, rfl⟩
          · intro b X hE hd hn hV
            have r5 : b.tmps[5]?.getD undef = .int .i64 (j : Int) := (hn 5 (by kernel_rfl)).trans rfl
            have r44 : b.tmps[44]?.getD undef = .bool false := hV 15 _ 44 rfl rfl (Pred.waits_near (by kernel_rfl) (by kernel_rfl))
            exact Pred.yields_run (v := .int .i64 (j : Int)) ((Pred.wanted_at (g := 15) (d := 44) (f := false) rfl rfl r44).trans rfl) (by go_simp) ⟨Pred.ext_refl _ _, rfl⟩
          · intro b X hE hd hn hV
            have r52 : b.tmps[52]?.getD undef = .slice (some ⟨bk, o, none⟩) n c := hV 23 _ 52 rfl rfl (Pred.waits_near (by kernel_rfl) (by kernel_rfl))
            have r53 : b.tmps[53]?.getD undef = .int .i64 (j : Int) := hV 24 _ 53 rfl rfl (Pred.waits_near (by kernel_rfl) (by kernel_rfl))
            have r44 : b.tmps[44]?.getD undef = .bool false := hV 15 _ 44 rfl rfl (Pred.waits_near (by kernel_rfl) (by kernel_rfl))
            exact Pred.yields_run (v := .pointer (some ⟨bk, o + j * 6, none⟩)) ((Pred.wanted_at (g := 15) (d := 44) (f := false) rfl rfl r44).trans rfl) (by go_simp) ⟨Pred.ext_refl _ _, rfl⟩
          · intro b X hE hd hn hV
            have r54 : b.tmps[54]?.getD undef = .pointer (some ⟨bk, o + j * 6, none⟩) := hV 25 _ 54 rfl rfl (Pred.waits_near (by kernel_rfl) (by kernel_rfl))
            have r44 : b.tmps[44]?.getD undef = .bool false := hV 15 _ 44 rfl rfl (Pred.waits_near (by kernel_rfl) (by kernel_rfl))
            have hEX : Below W.heap.size W X := LWX.trans (hE.mono LWX.size)
            have k0 : X.cell? ⟨bk, o + j * 6, none⟩ = some (.int .i64 x0) := CEA.out X hEX 0 (by omega)
            have k1 : X.cell? ⟨bk, o + j * 6 + 1, none⟩ = some (.int .i64 x1) := CEA.out X hEX 1 (by omega)
            have k2 : X.cell? ⟨bk, o + j * 6 + 2, none⟩ = some (.int .i64 x2) := CEA.out X hEX 2 (by omega)
            have k3 : X.cell? ⟨bk, o + j * 6 + 3, none⟩ = some (.int .i64 x3) := CEA.out X hEX 3 (by omega)
            have k4 : X.cell? ⟨bk, o + j * 6 + 4, none⟩ = some (.int .i64 x4) := CEA.out X hEX 4 (by omega)
            have k5 : X.cell? ⟨bk, o + j * 6 + 5, none⟩ = some (.int .i64 x5) := CEA.out X hEX 5 (by omega)
            exact Pred.yields_run (v := .agg #[.int .i64 x0, .int .i64 x1, .int .i64 x2, .int .i64 x3, .int .i64 x4, .int .i64 x5]) ((Pred.wanted_at (g := 15) (d := 44) (f := false) rfl rfl r44).trans rfl) (by go_simp) ⟨Pred.ext_refl _ _, rfl⟩
          · intro b X hE hd hn hV
            have r6 : b.tmps[6]?.getD undef = .pointer (some ⟨W.heap.size, 0, none⟩) := (hn 6 (by kernel_rfl)).trans rfl
            have r44 : b.tmps[44]?.getD undef = .bool false := hV 15 _ 44 rfl rfl (Pred.waits_near (by kernel_rfl) (by kernel_rfl))
            have q := (blk_below hE _ l6).trans b6
            have k0 : X.cell? ⟨W.heap.size, 0, none⟩ = some (.int .i64 y0) := by rw [blk_cell q]; rfl
            have k1 : X.cell? ⟨W.heap.size, 1, none⟩ = some (.int .i64 y1) := by rw [blk_cell q]; rfl
            have k2 : X.cell? ⟨W.heap.size, 2, none⟩ = some (.int .i64 y2) := by rw [blk_cell q]; rfl
            have k3 : X.cell? ⟨W.heap.size, 3, none⟩ = some (.int .i64 y3) := by rw [blk_cell q]; rfl
            have k4 : X.cell? ⟨W.heap.size, 4, none⟩ = some (.int .i64 y4) := by rw [blk_cell q]; rfl
            have k5 : X.cell? ⟨W.heap.size, 5, none⟩ = some (.int .i64 y5) := by rw [blk_cell q]; rfl
            clear q
            exact Pred.yields_run (v := .agg #[.int .i64 y0, .int .i64 y1, .int .i64 y2, .int .i64 y3, .int .i64 y4, .int .i64 y5]) ((Pred.wanted_at (g := 15) (d := 44) (f := false) rfl rfl r44).trans rfl) (by go_simp) ⟨Pred.ext_refl _ _, rfl⟩
          · intro b X hE hd hn hV
            have r1 : b.tmps[1]?.getD undef = .int .i64 p := (hn 1 (by kernel_rfl)).trans rfl
            have r44 : b.tmps[44]?.getD undef = .bool false := hV 15 _ 44 rfl rfl (Pred.waits_near (by kernel_rfl) (by kernel_rfl))
            exact Pred.yields_run (v := .int .i64 p) ((Pred.wanted_at (g := 15) (d := 44) (f := false) rfl rfl r44).trans rfl) (by go_simp) ⟨Pred.ext_refl _ _, rfl⟩
          · intro b X hE hd hn hV
            have r55 : b.tmps[55]?.getD undef = .agg #[.int .i64 x0, .int .i64 x1, .int .i64 x2, .int .i64 x3, .int .i64 x4, .int .i64 x5] := hV 26 _ 55 rfl rfl (Pred.waits_near (by kernel_rfl) (by kernel_rfl))
            have r56 : b.tmps[56]?.getD undef = .agg #[.int .i64 y0, .int .i64 y1, .int .i64 y2, .int .i64 y3, .int .i64 y4, .int .i64 y5] := hV 27 _ 56 rfl rfl (Pred.waits_near (by kernel_rfl) (by kernel_rfl))
            have r57 : b.tmps[57]?.getD undef = .int .i64 p := hV 28 _ 57 rfl rfl (Pred.waits_near (by kernel_rfl) (by kernel_rfl))
            have r44 : b.tmps[44]?.getD undef = .bool false := hV 15 _ 44 rfl rfl (Pred.waits_near (by kernel_rfl) (by kernel_rfl))
            refine Pred.yields_call (f := 12) (args := #[.agg #[.int .i64 x0, .int .i64 x1, .int .i64 x2, .int .i64 x3, .int .i64 x4, .int .i64 x5], .agg #[.int .i64 y0, .int .i64 y1, .int .i64 y2, .int .i64 y3, .int .i64 y4, .int .i64 y5], .int .i64 p]) ((Pred.wanted_at (g := 15) (d := 44) (f := false) rfl rfl r44).trans rfl) (by go_simp) ?_
            exact (CD.out _).mono fun e w2 ⟨he, hb⟩ => ⟨_, he, Pred.ext_below hb hE.size, rfl⟩
          · intro b X hE hd hn hV
            have r51 : b.tmps[51]?.getD undef = .agg #[.int .i64 c0, .int .i64 c1, .int .i64 c2, .int .i64 c3, .int .i64 c4, .int .i64 c5] := hV 22 _ 51 rfl rfl (Pred.waits_near (by kernel_rfl) (by kernel_rfl))
            have r58 : b.tmps[58]?.getD undef = .agg #[.int .i64 c0, .int .i64 c1, .int .i64 c2, .int .i64 c3, .int .i64 c4, .int .i64 c5] := hV 29 _ 58 rfl rfl (Pred.waits_near (by kernel_rfl) (by kernel_rfl))
            have r44 : b.tmps[44]?.getD undef = .bool false := hV 15 _ 44 rfl rfl (Pred.waits_near (by kernel_rfl) (by kernel_rfl))
            exact Pred.yields_run (v := .bool false) ((Pred.wanted_at (g := 15) (d := 44) (f := false) rfl rfl r44).trans rfl) (by go_simp) ⟨Pred.ext_refl _ _, rfl⟩
          · intro b X hE hd hn hV
            have r44 : b.tmps[44]?.getD undef = .bool false := hV 15 _ 44 rfl rfl (Pred.waits_near (by kernel_rfl) (by kernel_rfl))
            have r59 : b.tmps[59]?.getD undef = .bool false := hV 30 _ 59 rfl rfl (Pred.waits_near (by kernel_rfl) (by kernel_rfl))
            exact Pred.yields_run (v := .bool false) (Pred.wanted_none rfl) (by go_simp) ⟨Pred.ext_refl _ _, rfl⟩
        intro v w8 hE hv
        have e0 : v 0 = .slice (some ⟨bk, o, none⟩) n c := hv 0 _ 29 rfl rfl
        have e1 : v 1 = .int .i64 (j : Int) := hv 1 _ 30 rfl rfl
        have e2 : v 2 = .pointer (some ⟨bk, o + j * 6, none⟩) := hv 2 _ 31 rfl rfl
        have e3 : v 3 = .pointer (some ⟨bk, o + j * 6, none⟩) := hv 3 _ 32 rfl rfl
        have e4 : v 4 = .agg #[.int .i64 x0, .int .i64 x1, .int .i64 x2, .int .i64 x3] := hv 4 _ 33 rfl rfl
        have e5 : v 5 = .int .i64 p := hv 5 _ 34 rfl rfl
        have e6 : v 6 = .int .i64 d := hv 6 _ 35 rfl rfl
        have e7 : v 7 = .slice (some ⟨bk, o, none⟩) n c := hv 7 _ 36 rfl rfl
        have e8 : v 8 = .int .i64 (j : Int) := hv 8 _ 37 rfl rfl
        have e9 : v 9 = .pointer (some ⟨bk, o + j * 6, none⟩) := hv 9 _ 38 rfl rfl
        have e10 : v 10 = .pointer (some ⟨bk, o + j * 6, none⟩) := hv 10 _ 39 rfl rfl
        have e11 : v 11 = .agg #[.int .i64 x0, .int .i64 x1, .int .i64 x2, .int .i64 x3] := hv 11 _ 40 rfl rfl
        have e12 : v 12 = .int .i64 p := hv 12 _ 41 rfl rfl
        have e13 : v 13 = .int .i64 d := hv 13 _ 42 rfl rfl
        have e14 : v 14 = .bool false := hv 14 _ 43 rfl rfl
        have e15 : v 15 = .bool false := hv 15 _ 44 rfl rfl
        have e16 : v 16 = .slice (some ⟨bk, o, none⟩) n c := hv 16 _ 45 rfl rfl
        have e17 : v 17 = .int .i64 (j : Int) := hv 17 _ 46 rfl rfl
        have e18 : v 18 = .pointer (some ⟨bk, o + j * 6, none⟩) := hv 18 _ 47 rfl rfl
        have e19 : v 19 = .agg #[.int .i64 x0, .int .i64 x1, .int .i64 x2, .int .i64 x3, .int .i64 x4, .int .i64 x5] := hv 19 _ 48 rfl rfl
        have e20 : v 20 = .agg #[.int .i64 y0, .int .i64 y1, .int .i64 y2, .int .i64 y3, .int .i64 y4, .int .i64 y5] := hv 20 _ 49 rfl rfl
        have e21 : v 21 = .int .i64 p := hv 21 _ 50 rfl rfl
        have e22 : v 22 = .agg #[.int .i64 c0, .int .i64 c1, .int .i64 c2, .int .i64 c3, .int .i64 c4, .int .i64 c5] := hv 22 _ 51 rfl rfl
        have e23 : v 23 = .slice (some ⟨bk, o, none⟩) n c := hv 23 _ 52 rfl rfl
        have e24 : v 24 = .int .i64 (j : Int) := hv 24 _ 53 rfl rfl
        have e25 : v 25 = .pointer (some ⟨bk, o + j * 6, none⟩) := hv 25 _ 54 rfl rfl
        have e26 : v 26 = .agg #[.int .i64 x0, .int .i64 x1, .int .i64 x2, .int .i64 x3, .int .i64 x4, .int .i64 x5] := hv 26 _ 55 rfl rfl
        have e27 : v 27 = .agg #[.int .i64 y0, .int .i64 y1, .int .i64 y2, .int .i64 y3, .int .i64 y4, .int .i64 y5] := hv 27 _ 56 rfl rfl
        have e28 : v 28 = .int .i64 p := hv 28 _ 57 rfl rfl
        have e29 : v 29 = .agg #[.int .i64 c0, .int .i64 c1, .int .i64 c2, .int .i64 c3, .int .i64 c4, .int .i64 c5] := hv 29 _ 58 rfl rfl
        have e30 : v 30 = .bool false := hv 30 _ 59 rfl rfl
        have e31 : v 31 = .bool false := hv 31 _ 60 rfl rfl
        simp only [Pred.putsF_cons, Pred.putsF_nil, Nat.zero_add, Nat.reduceAdd, e0, e1, e2, e3, e4, e5, e6, e7, e8, e9, e10, e11, e12, e13, e14, e15, e16, e17, e18, e19, e20, e21, e22, e23, e24, e25, e26, e27, e28, e29, e30, e31, Act.put, List.setIfInBounds_toArray, List.set_cons_zero, List.set_cons_succ]
        clear e0 e1 e2 e3 e4 e5 e6 e7 e8 e9 e10 e11 e12 e13 e14 e15 e16 e17 e18 e19 e20 e21 e22 e23 e24 e25 e26 e27 e28 e29 e30 e31 hv
        have hs2 := hE.size
        go_wp2
        go_roundw
        case rel =>
          exact ⟨j + 1, by omega, by go_num, L2.trans (hE.mono L2.size)⟩
        case measure => simp [intOf]; omega
      · obtain rfl : j = n := by omega
        have CP := Lib.hid (polygon_any row ad c W HW.out HV.out (by rw [HN.out]; omega))
        have CQ := Lib.hid (fun X : World => fun hX : RowAt X ad row => rpolygon_any row ad c X hX HV.out (by rw [HN.out]; omega))
        rw [HN.out] at CP CQ
        have hsm := polyV_small (row := row) (by rw [HN.out]; omega)
        obtain ⟨R, eR⟩ : ∃ R, polyV row = R := ⟨_, rfl⟩
        rw [eR] at CP CQ hsm
        clear eR
        go_wp2_with fail
        refine CP.out.mono ?_
        rintro e w3 ⟨⟨ad3, c3, rfl, hr3⟩, hb3⟩
        have H3 := Lib.hid hr3
        have HR3 := Lib.hid (RowAt.below (B := 0) HW.out hb3)
        have L3 : Below w.heap.size w w3 := by repeat' (first | (with_reducible exact Below.refl _ _) | (with_reducible refine Rd.below_step ?_ (by assumption)) | (with_reducible refine Rd.below_alloc ?_ _) | (with_reducible refine Rd.below_drewN ?_ _) | (with_reducible refine Below.drew ?_) | (with_reducible refine Below.setCell ?_ ?_ _) | (with_reducible refine Rd.below_setRow ?_ ?_ _) | go_size | (simp only [World.size_alloc]; omega) | omega)
        clear hr3 hb3 CP
        go_wp2_with fail
        refine (CQ.out _ HR3.out).mono ?_
        rintro e w4 ⟨⟨ad4, c4, rfl, hr4⟩, hb4⟩
        have H4 := Lib.hid hr4
        have H34 := Lib.hid (RowAt.below (B := 0) H3.out hb4)
        have L4 : Below w.heap.size w w4 := by repeat' (first | (with_reducible exact Below.refl _ _) | (with_reducible refine Rd.below_step ?_ (by assumption)) | (with_reducible refine Rd.below_alloc ?_ _) | (with_reducible refine Rd.below_drewN ?_ _) | (with_reducible refine Below.drew ?_) | (with_reducible refine Below.setCell ?_ ?_ _) | (with_reducible refine Rd.below_setRow ?_ ?_ _) | go_size | (simp only [World.size_alloc]; omega) | omega)
        clear hr4 hb4 CQ
        go_wp2_with fail
        refine (same_any R R ad3 ad4 c3 c4 _ H34.out H4.out hsm hsm).mono ?_
        rintro e w5 ⟨he, hb5⟩
        rw [decide_eq_true rfl] at he
        subst he
        have L5 : Below w.heap.size w w5 := by repeat' (first | (with_reducible exact Below.refl _ _) | (with_reducible refine Rd.below_step ?_ (by assumption)) | (with_reducible refine Rd.below_alloc ?_ _) | (with_reducible refine Rd.below_drewN ?_ _) | (with_reducible refine Below.drew ?_) | (with_reducible refine Below.setCell ?_ ?_ _) | (with_reducible refine Rd.below_setRow ?_ ?_ _) | go_size | (simp only [World.size_alloc]; omega) | omega)
        clear hb5
        go_wp2_with fail
        refine (awake_any _).mono ?_
        rintro e w9 ⟨rfl, hb9⟩
        have L9 : Below w.heap.size w w9 := by repeat' (first | (with_reducible exact Below.refl _ _) | (with_reducible refine Rd.below_step ?_ (by assumption)) | (with_reducible refine Rd.below_alloc ?_ _) | (with_reducible refine Rd.below_drewN ?_ _) | (with_reducible refine Below.drew ?_) | (with_reducible refine Below.setCell ?_ ?_ _) | (with_reducible refine Rd.below_setRow ?_ ?_ _) | go_size | (simp only [World.size_alloc]; omega) | omega)
        go_wp2
        go_ret
        exact ⟨rfl, L9⟩
end Go.Proofs.Ytbbkdjpdifkadaa.ClL
