/-
  The document's own way from plane to plane.
-/
import Derived.Test.YtimfjogallcgnaaClF
import Derived.Test.YtimfjogallcgnaaPredS
import Derived.BigGuard
namespace Go.Proofs.Ytimfjogallcgnaa.ClG
open Go.RowKit FixA Num Rd Go.Proofs.Ytimfjogallcgnaa.Row Mid ClM ClA ClB ClC ClD ClE ClF
open Go.Proofs.Ytimfjogallcgnaa.PredS (Is is_stab Stab Sl sl_stab)
set_option linter.unusedVariables false
set_option linter.unusedSimpArgs false
set_option maxRecDepth 10000
attribute [local go_sem ↓] store_vx
attribute [local go_sem] one_int run_store_vx rowStore_eq
set_option maxHeartbeats 4000000 in
theorem rpolygon_any (row : ClM.Row) (ad : Option Addr) (c : Nat) (w : World) (h : RowAt w ad row) (hv : VxR row) (hm : row.length ≤ 100) :
    Calls Try.prog 30 #[.slice ad row.length c] w fun e w' => (∃ ad' c', e = .returned (.slice ad' (polyV row).length c') ∧ RowAt w' ad' (polyV row)) ∧ Below w.heap.size w w' := by
  obtain ⟨n, hn⟩ : ∃ n, row.length = n := ⟨_, rfl⟩
  have HN := Lib.hid hn
  have H := Lib.hid h
  have HV := Lib.hid hv
  rw [hn]
  rw [hn] at hm
  clear hn h hv
  go_enter Try.func30, Try.ntmps30
  have hR := RowAt.below (B := 0) H.out (Below.alloc (Below.refl w.heap.size w) (Nat.le_refl _) (.cells #[] 25))
  have hE := owns_empty w w.heap.size (Nat.le_refl _)
  have HNl := HN.out
  go_wp2_with (at_builtin; refine app_row rfl (.tmp 11) (.tmp 12) rfl w.heap.size _ rfl hE _ _ _ row HN.out rfl hR (by omega) (by simp) ?_; intro v1 w1 ho1 hg1)
  have L1 : Below w.heap.size w w1 := (Below.alloc (Below.refl _ _) (Nat.le_refl _) _).grown hg1 (by simp) (fun j hj => by
    have h9 : (some w.heap.size : Option Nat) = some j := hj
    injection h9 with h9
    omega)
  obtain ⟨ad1, c1, e5, _⟩ := owns_val ho1
  subst e5
  have HR1 := Lib.hid (rowAt_owns ho1 H.out.1).2
  clear ho1 hg1 hR hE HNl
  go_loopw [3, 4] (fun v i wr => ∃ k : Nat, k ≤ 7 ∧ i = .int .i64 k ∧ (k = 0 ∨ 3 ≤ n) ∧ (∃ ad' c' m, v = .slice ad' m c' ∧ Hid ((wK row k).length = m ∧ RowAt wr ad' (wK row k))) ∧ Below w.heap.size w wr) (fun _ i _ => 7 - (intOf i).toNat)
  case atStart => exact ⟨0, by omega, rfl, Or.inl rfl, ⟨ad1, c1, n, by rw [HN.out], ⟨HN.out, HR1.out⟩⟩, L1⟩
  case round =>
    rename World => W0
    obtain ⟨k, hk, rfl, h30, ⟨ad', c', m, rfl, HW⟩, hb⟩ := hrel
    have H30 := Lib.hid h30
    clear h30
    obtain ⟨R, eR⟩ : ∃ R, wK row k = R := ⟨_, rfl⟩
    have hsm := HW.out.1
    have hle := wK_small row (by rw [HN.out]; omega) k hk
    rw [hsm] at hle
    have VR := Lib.hid (wK_vx HV.out k)
    rw [eR] at HW VR
    have ER := Lib.hid eR
    clear eR hsm
    by_cases hlt : k < 7
    · have hk7 : (k : Int) < 7 := by omega
      by_cases hm3 : m < 3
      · have hp : polyV row = [] := poly_early (k := k) (by omega) (by rw [ER.out, HW.out.1]; exact hm3)
        have HPp := Lib.hid hp
        clear hp
        have hm3' : (m : Int) < 3 := by omega
        go_wp2
        go_ret
        rw [HPp.out]
        exact ⟨⟨none, 0, rfl, ⟨fun v hv => (by cases hv), Or.inl rfl⟩⟩, by repeat' (first | (with_reducible exact Below.refl _ _) | (with_reducible refine Rd.below_step ?_ (by assumption)) | (with_reducible refine Rd.below_alloc ?_ _) | (with_reducible refine Rd.below_drewN ?_ _) | (with_reducible refine Below.drew ?_) | (with_reducible refine Below.setCell ?_ ?_ _) | (with_reducible refine Rd.below_setRow ?_ ?_ _) | go_size | (simp only [World.size_alloc]; omega) | omega)⟩
      have hm3' : ¬ (m : Int) < 3 := by omega
      have hn3 : 3 ≤ n := by
        rcases H30.out with h | h
        · have e : wK row 0 = R := by rw [← h]; exact ER.out
          have e2 : row.length = m := by rw [show row = R from e]; exact HW.out.1
          rw [HN.out] at e2
          omega
        · exact h
      have NXT : Hid (wK row (k + 1) = ClM.within (k : Int) R) := Lib.hid (by
        show ClM.within (k : Int) (wK row k) = _
        rw [ER.out])
      go_wp2_with fail
      go_loopw [5, 6] (fun v i W => ∃ j : Nat, j ≤ m ∧ i = .int .i64 j ∧ Hid (W.ownsRow W0.heap.size 25 6 v (withinK k R j).length (fl (withinK k R j))) ∧ Below W0.heap.size W0 W) (fun _ i _ => m - (intOf i).toNat)
      case atStart => exact ⟨0, by omega, rfl, World.ownsRow_nil _ _ _ _, by repeat' (first | (with_reducible exact Below.refl _ _) | (with_reducible refine Rd.below_step ?_ (by assumption)) | (with_reducible refine Rd.below_alloc ?_ _) | (with_reducible refine Rd.below_drewN ?_ _) | (with_reducible refine Below.drew ?_) | (with_reducible refine Below.setCell ?_ ?_ _) | (with_reducible refine Rd.below_setRow ?_ ?_ _) | go_size | (simp only [World.size_alloc]; omega) | omega)⟩
      case round =>
        rename World => W
        obtain ⟨j, hjm, rfl, HO, hbW⟩ := hrel
        by_cases hlt2 : j < m
        · have hlt' : (j : Int) < m := by omega
          obtain ⟨q, hq⟩ : ∃ q, (j + 1) % m = q := ⟨_, rfl⟩
          have hqn : q < m := by rw [← hq]; exact Nat.mod_lt _ (by omega)
          have hqn' : (q : Int) < m := by omega
          have hm0 : ¬ ((m : Int) = 0) := by omega
          have hq1 : ((j : Int) + 1) % (m : Int) = (q : Int) := by exact_mod_cast hq
          have hq2 : ((j : Int) + 1).tmod (m : Int) = (q : Int) := by rw [Int.tmod_eq_emod_of_nonneg (by omega)]; exact hq1
          have hnx : nxt R j = at_ R q := by unfold nxt at_; rw [HW.out.1, hq]
          obtain ⟨bk, o, ea, hb0, hc⟩ : ∃ b o, ad' = some ⟨b, o, none⟩ ∧ b < W0.heap.size ∧ ∀ i, i < R.length → ∀ j, j < 6 → W0.cell? ⟨b, o + i * 6 + j, none⟩ = some (.int .i64 (ClM.g (at_ R i) j)) := by
            rcases HW.out.2.2 with h | h
            · have := HW.out.1; rw [h] at this; simp at this; omega
            · exact h
          subst ea
          have va := at_vx VR.out (i := j) (by rw [HW.out.1]; exact hlt2)
          have vb := at_vx VR.out (i := q) (by rw [HW.out.1]; exact hqn)
          have ca : ∀ t, t < 6 → W.cell? ⟨bk, o + j * 6 + t, none⟩ = some (.int .i64 (ClM.g (at_ R j) t)) := fun t ht => (hbW.cell (p := ⟨bk, o + j * 6 + t, none⟩) hb0).trans (hc j (by rw [HW.out.1]; exact hlt2) t ht)
          have cb : ∀ t, t < 6 → W.cell? ⟨bk, o + q * 6 + t, none⟩ = some (.int .i64 (ClM.g (at_ R q) t)) := fun t ht => (hbW.cell (p := ⟨bk, o + q * 6 + t, none⟩) hb0).trans (hc q (by rw [HW.out.1]; exact hqn) t ht)
          have hstep : withinK k R (j + 1) = withinK k R j ++ piece k (at_ R j) (at_ R q) := by rw [withinK_succ, hnx]
          obtain ⟨x0, x1, x2, x3, x4, x5, eA⟩ := len6 va.len
          obtain ⟨y0, y1, y2, y3, y4, y5, eB⟩ := len6 vb.len
          rw [eA] at va ca hstep
          rw [eB] at vb cb hstep
          have HS := Lib.hid hstep
          have VA := Lib.hid va
          have VB := Lib.hid vb
          have hbw : bk < W.heap.size := Nat.lt_of_lt_of_le hb0 hbW.size
          have CEA : Hid (∀ X : World, Below W.heap.size W X → ∀ t, t < 6 → X.cell? ⟨bk, o + j * 6 + t, none⟩ = some (.int .i64 (ClM.g [x0, x1, x2, x3, x4, x5] t))) := Lib.hid fun X hX t ht => (hX.cell (p := ⟨bk, o + j * 6 + t, none⟩) hbw).trans (ca t ht)
          have CEB : Hid (∀ X : World, Below W.heap.size W X → ∀ t, t < 6 → X.cell? ⟨bk, o + q * 6 + t, none⟩ = some (.int .i64 (ClM.g [y0, y1, y2, y3, y4, y5] t))) := Lib.hid fun X hX t ht => (hX.cell (p := ⟨bk, o + q * 6 + t, none⟩) hbw).trans (cb t ht)
          clear hstep va vb eA eB ca cb hc hnx hq
          go_upto_region 11 with (fail)
          refine PredS.region_vals (W := W) [⟨12, 14, 25, cs .i64 [0, 0, 0, 0, 0, 0], #[.int .i64 x0, .int .i64 x1, .int .i64 x2, .int .i64 x3, .int .i64 x4, .int .i64 x5]⟩, ⟨13, 15, 25, cs .i64 [0, 0, 0, 0, 0, 0], #[.int .i64 y0, .int .i64 y1, .int .i64 y2, .int .i64 y3, .int .i64 y4, .int .i64 y5]⟩] (PredS.Of [
              Is (.slice (some ⟨bk, o, none⟩) m c'),
              Is (.int .i64 (j : Int)),
              Is (.pointer (some ⟨bk, o + j * 6, none⟩)),
              Is (.agg #[.int .i64 x0, .int .i64 x1, .int .i64 x2, .int .i64 x3, .int .i64 x4, .int .i64 x5]),
              Is (.slice (some ⟨bk, o, none⟩) m c'),
              Is (.int .i64 (j : Int)),
              Is (.int .i64 ((j : Int) + 1)),
              Is (.slice (some ⟨bk, o, none⟩) m c'),
              Is (.int .i64 (m : Int)),
              Is (.int .i64 (q : Int)),
              Is (.pointer (some ⟨bk, o + q * 6, none⟩)),
              Is (.agg #[.int .i64 y0, .int .i64 y1, .int .i64 y2, .int .i64 y3, .int .i64 y4, .int .i64 y5]),
              Is undef,
              Is undef,
              Is undef,
              Is undef]) (by kernel_rfl) (by kernel_rfl) (by kernel_rfl) (by kernel_rfl) (PredS.of_stab ?_) ?_ ?_ ?_
          · exact ⟨is_stab _, is_stab _, is_stab _, is_stab _, is_stab _, is_stab _, is_stab _, is_stab _, is_stab _, is_stab _, is_stab _, is_stab _, is_stab _, is_stab _, is_stab _, is_stab _, trivial⟩
          · refine ⟨.inr ?_, .inr ?_, .inr ?_, .inr ?_, .inr ?_, .inr ?_, .inr ?_, .inr ?_, .inr ?_, .inr ?_, .inr ?_, .inr ?_, .inl rfl, .inl rfl, .inl rfl, .inl rfl, trivial⟩
            · intro b X hE hd hn hV
              have r3 : b.tmps[3]?.getD undef = .slice (some ⟨bk, o, none⟩) m c' := (hn 3 (by kernel_rfl)).trans rfl
              exact Pred.yields_run (v := .slice (some ⟨bk, o, none⟩) m c') (Pred.wanted_none rfl) (by go_simp) ⟨PredS.ext_refl _ _ _, rfl⟩
            · intro b X hE hd hn hV
              have r6 : b.tmps[6]?.getD undef = .int .i64 (j : Int) := (hn 6 (by kernel_rfl)).trans rfl
              exact Pred.yields_run (v := .int .i64 (j : Int)) (Pred.wanted_none rfl) (by go_simp) ⟨PredS.ext_refl _ _ _, rfl⟩
            · intro b X hE hd hn hV
              have r27 : b.tmps[27]?.getD undef = .slice (some ⟨bk, o, none⟩) m c' := hV 0 _ 27 rfl rfl rfl (Pred.waits_near (by kernel_rfl) (by kernel_rfl))
              have r28 : b.tmps[28]?.getD undef = .int .i64 (j : Int) := hV 1 _ 28 rfl rfl rfl (Pred.waits_near (by kernel_rfl) (by kernel_rfl))
              exact Pred.yields_run (v := .pointer (some ⟨bk, o + j * 6, none⟩)) (Pred.wanted_none rfl) (by go_simp) ⟨PredS.ext_refl _ _ _, rfl⟩
            · intro b X hE hd hn hV
              have r29 : b.tmps[29]?.getD undef = .pointer (some ⟨bk, o + j * 6, none⟩) := hV 2 _ 29 rfl rfl rfl (Pred.waits_near (by kernel_rfl) (by kernel_rfl))
              have k0 : X.cell? ⟨bk, o + j * 6, none⟩ = some (.int .i64 x0) := CEA.out X hE 0 (by omega)
              have k1 : X.cell? ⟨bk, o + j * 6 + 1, none⟩ = some (.int .i64 x1) := CEA.out X hE 1 (by omega)
              have k2 : X.cell? ⟨bk, o + j * 6 + 2, none⟩ = some (.int .i64 x2) := CEA.out X hE 2 (by omega)
              have k3 : X.cell? ⟨bk, o + j * 6 + 3, none⟩ = some (.int .i64 x3) := CEA.out X hE 3 (by omega)
              have k4 : X.cell? ⟨bk, o + j * 6 + 4, none⟩ = some (.int .i64 x4) := CEA.out X hE 4 (by omega)
              have k5 : X.cell? ⟨bk, o + j * 6 + 5, none⟩ = some (.int .i64 x5) := CEA.out X hE 5 (by omega)
              exact Pred.yields_run (v := .agg #[.int .i64 x0, .int .i64 x1, .int .i64 x2, .int .i64 x3, .int .i64 x4, .int .i64 x5]) (Pred.wanted_none rfl) (by go_simp) ⟨PredS.ext_refl _ _ _, rfl⟩
            · intro b X hE hd hn hV
              have r3 : b.tmps[3]?.getD undef = .slice (some ⟨bk, o, none⟩) m c' := (hn 3 (by kernel_rfl)).trans rfl
              exact Pred.yields_run (v := .slice (some ⟨bk, o, none⟩) m c') (Pred.wanted_none rfl) (by go_simp) ⟨PredS.ext_refl _ _ _, rfl⟩
            · intro b X hE hd hn hV
              have r6 : b.tmps[6]?.getD undef = .int .i64 (j : Int) := (hn 6 (by kernel_rfl)).trans rfl
              exact Pred.yields_run (v := .int .i64 (j : Int)) (Pred.wanted_none rfl) (by go_simp) ⟨PredS.ext_refl _ _ _, rfl⟩
            · intro b X hE hd hn hV
              have r32 : b.tmps[32]?.getD undef = .int .i64 (j : Int) := hV 5 _ 32 rfl rfl rfl (Pred.waits_near (by kernel_rfl) (by kernel_rfl))
              have hwr : IntKind.i64.wrap ((j : Int) + 1) = (j : Int) + 1 := IntWalk.i64_in _ (by omega)
              exact Pred.yields_run (v := .int .i64 ((j : Int) + 1)) (Pred.wanted_none rfl) (by go_simp) ⟨PredS.ext_refl _ _ _, rfl⟩
            · intro b X hE hd hn hV
              have r3 : b.tmps[3]?.getD undef = .slice (some ⟨bk, o, none⟩) m c' := (hn 3 (by kernel_rfl)).trans rfl
              exact Pred.yields_run (v := .slice (some ⟨bk, o, none⟩) m c') (Pred.wanted_none rfl) (by go_simp) ⟨PredS.ext_refl _ _ _, rfl⟩
            · intro b X hE hd hn hV
              have r34 : b.tmps[34]?.getD undef = .slice (some ⟨bk, o, none⟩) m c' := hV 7 _ 34 rfl rfl rfl (Pred.waits_near (by kernel_rfl) (by kernel_rfl))
              exact Pred.yields_run (v := .int .i64 (m : Int)) (Pred.wanted_none rfl) (by go_simp) ⟨PredS.ext_refl _ _ _, rfl⟩
            · intro b X hE hd hn hV
              have r33 : b.tmps[33]?.getD undef = .int .i64 ((j : Int) + 1) := hV 6 _ 33 rfl rfl rfl (Pred.waits_near (by kernel_rfl) (by kernel_rfl))
              have r35 : b.tmps[35]?.getD undef = .int .i64 (m : Int) := hV 8 _ 35 rfl rfl rfl (Pred.waits_near (by kernel_rfl) (by kernel_rfl))
              exact Pred.yields_run (v := .int .i64 (q : Int)) (Pred.wanted_none rfl) (by go_simp; try go_num) ⟨PredS.ext_refl _ _ _, rfl⟩
            · intro b X hE hd hn hV
              have r31 : b.tmps[31]?.getD undef = .slice (some ⟨bk, o, none⟩) m c' := hV 4 _ 31 rfl rfl rfl (Pred.waits_near (by kernel_rfl) (by kernel_rfl))
              have r36 : b.tmps[36]?.getD undef = .int .i64 (q : Int) := hV 9 _ 36 rfl rfl rfl (Pred.waits_near (by kernel_rfl) (by kernel_rfl))
              exact Pred.yields_run (v := .pointer (some ⟨bk, o + q * 6, none⟩)) (Pred.wanted_none rfl) (by go_simp) ⟨PredS.ext_refl _ _ _, rfl⟩
            · intro b X hE hd hn hV
              have r37 : b.tmps[37]?.getD undef = .pointer (some ⟨bk, o + q * 6, none⟩) := hV 10 _ 37 rfl rfl rfl (Pred.waits_near (by kernel_rfl) (by kernel_rfl))
              have k0 : X.cell? ⟨bk, o + q * 6, none⟩ = some (.int .i64 y0) := CEB.out X hE 0 (by omega)
              have k1 : X.cell? ⟨bk, o + q * 6 + 1, none⟩ = some (.int .i64 y1) := CEB.out X hE 1 (by omega)
              have k2 : X.cell? ⟨bk, o + q * 6 + 2, none⟩ = some (.int .i64 y2) := CEB.out X hE 2 (by omega)
              have k3 : X.cell? ⟨bk, o + q * 6 + 3, none⟩ = some (.int .i64 y3) := CEB.out X hE 3 (by omega)
              have k4 : X.cell? ⟨bk, o + q * 6 + 4, none⟩ = some (.int .i64 y4) := CEB.out X hE 4 (by omega)
              have k5 : X.cell? ⟨bk, o + q * 6 + 5, none⟩ = some (.int .i64 y5) := CEB.out X hE 5 (by omega)
              exact Pred.yields_run (v := .agg #[.int .i64 y0, .int .i64 y1, .int .i64 y2, .int .i64 y3, .int .i64 y4, .int .i64 y5]) (Pred.wanted_none rfl) (by go_simp) ⟨PredS.ext_refl _ _ _, rfl⟩
          · refine ⟨?_, ?_, trivial⟩
            · refine ⟨_, 7, _, rfl, rfl, by simp, rfl, fun ρ w => by first | (go_simp; done) | (go_simp; rfl), rfl, rfl, Pred.waits_near (by kernel_rfl) (by kernel_rfl), fun b X g hE hn hV hp hg hb => ?_⟩
              have r30 : b.tmps[30]?.getD undef = .agg #[.int .i64 x0, .int .i64 x1, .int .i64 x2, .int .i64 x3, .int .i64 x4, .int .i64 x5] := hV 3 _ 30 rfl rfl rfl (Pred.waits_near (by kernel_rfl) (by kernel_rfl))
              simp only at hb
              exact PredS.yields_skip (Pred.wanted_none rfl) (by go_simp) rfl
            · refine ⟨_, 8, _, rfl, rfl, by simp, rfl, fun ρ w => by first | (go_simp; done) | (go_simp; rfl), rfl, rfl, Pred.waits_near (by kernel_rfl) (by kernel_rfl), fun b X g hE hn hV hp hg hb => ?_⟩
              have r38 : b.tmps[38]?.getD undef = .agg #[.int .i64 y0, .int .i64 y1, .int .i64 y2, .int .i64 y3, .int .i64 y4, .int .i64 y5] := hV 11 _ 38 rfl rfl rfl (Pred.waits_near (by kernel_rfl) (by kernel_rfl))
              simp only at hb
              exact PredS.yields_skip (Pred.wanted_none rfl) (by go_simp) rfl
          intro v w2 hE hv hL
          have e0 : v 0 = .slice (some ⟨bk, o, none⟩) m c' := hv 0 _ 27 rfl rfl rfl
          have e1 : v 1 = .int .i64 (j : Int) := hv 1 _ 28 rfl rfl rfl
          have e2 : v 2 = .pointer (some ⟨bk, o + j * 6, none⟩) := hv 2 _ 29 rfl rfl rfl
          have e3 : v 3 = .agg #[.int .i64 x0, .int .i64 x1, .int .i64 x2, .int .i64 x3, .int .i64 x4, .int .i64 x5] := hv 3 _ 30 rfl rfl rfl
          have e4 : v 4 = .slice (some ⟨bk, o, none⟩) m c' := hv 4 _ 31 rfl rfl rfl
          have e5 : v 5 = .int .i64 (j : Int) := hv 5 _ 32 rfl rfl rfl
          have e6 : v 6 = .int .i64 ((j : Int) + 1) := hv 6 _ 33 rfl rfl rfl
          have e7 : v 7 = .slice (some ⟨bk, o, none⟩) m c' := hv 7 _ 34 rfl rfl rfl
          have e8 : v 8 = .int .i64 (m : Int) := hv 8 _ 35 rfl rfl rfl
          have e9 : v 9 = .int .i64 (q : Int) := hv 9 _ 36 rfl rfl rfl
          have e10 : v 10 = .pointer (some ⟨bk, o + q * 6, none⟩) := hv 10 _ 37 rfl rfl rfl
          have e11 : v 11 = .agg #[.int .i64 y0, .int .i64 y1, .int .i64 y2, .int .i64 y3, .int .i64 y4, .int .i64 y5] := hv 11 _ 38 rfl rfl rfl
          obtain ⟨⟨g12, e12, o12, q12, n12⟩, ⟨⟨g13, e13, o13, q13, n13⟩, -⟩⟩ := hL
          replace q12 : blk w2 g12 = some (.cells #[.int .i64 x0, .int .i64 x1, .int .i64 x2, .int .i64 x3, .int .i64 x4, .int .i64 x5] 25 (0, 0)) := q12
          have d13_12 : g13 ≠ g12 := fun e => n12 _ (by simp) (e13.trans (by rw [e]))
          replace q13 : blk w2 g13 = some (.cells #[.int .i64 y0, .int .i64 y1, .int .i64 y2, .int .i64 y3, .int .i64 y4, .int .i64 y5] 25 (0, 0)) := q13
          clear n12 n13
          simp only [Pred.putsF_cons, Pred.putsF_nil, Nat.zero_add, Nat.reduceAdd, e0, e1, e2, e3, e4, e5, e6, e7, e8, e9, e10, e11, e12, e13, Act.put, List.setIfInBounds_toArray, List.set_cons_zero, List.set_cons_succ]
          clear e0 e1 e2 e3 e4 e5 e6 e7 e8 e9 e10 e11 e12 e13 hv
          have bA : blk w2 g12 = some (.cells (cs .i64 [x0, x1, x2, x3, x4, x5]) 25 (0, 0)) := q12
          have bB : blk w2 g13 = some (.cells (cs .i64 [y0, y1, y2, y3, y4, y5]) 25 (0, 0)) := q13
          have OWN := Lib.hid (fun (j : Nat) (e : u5.ownBlock = some j) => (HO.out.lt j e).2)
          have HO2 : Hid (w2.ownsRow W0.heap.size 25 6 u5 (withinK k R j).length (fl (withinK k R j))) := Lib.hid (owns_below HO.out hE)
          have L2 : Below W0.heap.size W0 w2 := by repeat' (first | (with_reducible exact Below.refl _ _) | (with_reducible refine Rd.below_step ?_ (by assumption)) | (with_reducible refine Rd.below_alloc ?_ _) | (with_reducible refine Rd.below_drewN ?_ _) | (with_reducible refine Below.drew ?_) | (with_reducible refine Below.setCell ?_ ?_ _) | (with_reducible refine Rd.below_setRow ?_ ?_ _) | go_size | (simp only [World.size_alloc]; omega) | omega)
          have hWs := hbW.size
          have s1 := blk_lt bA
          have s2 := blk_lt bB
          have og12 : W.heap.size ≤ g12 := o12
          have og13 : W.heap.size ≤ g13 := o13
          clear HO hE q12 q13 o12 o13
          have gA0 := Go.cell_regrown (w := w2) (a := ⟨g12, 0, none⟩) (v := .int .i64 x0) (by rw [blk_cell bA]; rfl)
          have gB0 := Go.cell_regrown (w := w2) (a := ⟨g13, 0, none⟩) (v := .int .i64 y0) (by rw [blk_cell bB]; rfl)
          have gA1 := Go.cell_regrown (w := w2) (a := ⟨g12, 1, none⟩) (v := .int .i64 x1) (by rw [blk_cell bA]; rfl)
          have gB1 := Go.cell_regrown (w := w2) (a := ⟨g13, 1, none⟩) (v := .int .i64 y1) (by rw [blk_cell bB]; rfl)
          have gA2 := Go.cell_regrown (w := w2) (a := ⟨g12, 2, none⟩) (v := .int .i64 x2) (by rw [blk_cell bA]; rfl)
          have gB2 := Go.cell_regrown (w := w2) (a := ⟨g13, 2, none⟩) (v := .int .i64 y2) (by rw [blk_cell bB]; rfl)
          have gA3 := Go.cell_regrown (w := w2) (a := ⟨g12, 3, none⟩) (v := .int .i64 x3) (by rw [blk_cell bA]; rfl)
          have gB3 := Go.cell_regrown (w := w2) (a := ⟨g13, 3, none⟩) (v := .int .i64 y3) (by rw [blk_cell bB]; rfl)
          have CA : Hid (∀ W : World, Calls Try.prog 38 #[.agg #[.int .i64 x0, .int .i64 x1, .int .i64 x2, .int .i64 x3], .int .i64 k] W fun e w' => e = .returned (.int .i64 (insV [x0, x1, x2, x3, x4, x5] k)) ∧ Below W.heap.size W w') := fun W => rinside_v VA.out k W
          have CB : Hid (∀ W : World, Calls Try.prog 38 #[.agg #[.int .i64 y0, .int .i64 y1, .int .i64 y2, .int .i64 y3], .int .i64 k] W fun e w' => e = .returned (.int .i64 (insV [y0, y1, y2, y3, y4, y5] k)) ∧ Below W.heap.size W w') := fun W => rinside_v VB.out k W
          go_upto_region 12 with (fail)
          (refine wp_region_quiet_below (by kernel_rfl) (by kernel_rfl) ?_; (repeat (go_big_quiet_step ((first | (with_reducible exact Calls.regrown_of (CA.out _)) | (with_reducible exact Calls.regrown_of (CB.out _)))))); refine wpQuiet_nil ?_)
          intro w3 hU
          have KU := Rd.below_of_regrown hU
          clear hU CA CB gA0 gB0 gA1 gB1 gA2 gB2 gA3 gB3
          have hs := KU.size
          have bA3 := (blk_below KU _ s1).trans bA
          have bB3 := (blk_below KU _ s2).trans bB
          have HO3 := Lib.hid (owns_below HO2.out KU)
          have L3 : Below W0.heap.size W0 w3 := by repeat' (first | (with_reducible exact Below.refl _ _) | (with_reducible refine Rd.below_step ?_ (by assumption)) | (with_reducible refine Rd.below_alloc ?_ _) | (with_reducible refine Rd.below_drewN ?_ _) | (with_reducible refine Below.drew ?_) | (with_reducible refine Below.setCell ?_ ?_ _) | (with_reducible refine Rd.below_setRow ?_ ?_ _) | go_size | (simp only [World.size_alloc]; omega) | omega)
          have s3 : g12 < w3.heap.size := by omega
          have s4 : g13 < w3.heap.size := by omega
          clear KU bA bB HO2 L2 s1 s2
          have p0 : w3.cell? ⟨g12, 0, none⟩ = some (.int .i64 x0) := by rw [blk_cell bA3]; rfl
          have q0 : w3.cell? ⟨g13, 0, none⟩ = some (.int .i64 y0) := by rw [blk_cell bB3]; rfl
          have p1 : w3.cell? ⟨g12, 1, none⟩ = some (.int .i64 x1) := by rw [blk_cell bA3]; rfl
          have q1 : w3.cell? ⟨g13, 1, none⟩ = some (.int .i64 y1) := by rw [blk_cell bB3]; rfl
          have p2 : w3.cell? ⟨g12, 2, none⟩ = some (.int .i64 x2) := by rw [blk_cell bA3]; rfl
          have q2 : w3.cell? ⟨g13, 2, none⟩ = some (.int .i64 y2) := by rw [blk_cell bB3]; rfl
          have p3 : w3.cell? ⟨g12, 3, none⟩ = some (.int .i64 x3) := by rw [blk_cell bA3]; rfl
          have q3 : w3.cell? ⟨g13, 3, none⟩ = some (.int .i64 y3) := by rw [blk_cell bB3]; rfl
          have p4 : w3.cell? ⟨g12, 4, none⟩ = some (.int .i64 x4) := by rw [blk_cell bA3]; rfl
          have q4 : w3.cell? ⟨g13, 4, none⟩ = some (.int .i64 y4) := by rw [blk_cell bB3]; rfl
          have p5 : w3.cell? ⟨g12, 5, none⟩ = some (.int .i64 x5) := by rw [blk_cell bA3]; rfl
          have q5 : w3.cell? ⟨g13, 5, none⟩ = some (.int .i64 y5) := by rw [blk_cell bB3]; rfl
          have hwl := withinK_len k R j
          by_cases iA : 0 ≤ insV [x0, x1, x2, x3, x4, x5] k
          · have jA : inB k [x0, x1, x2, x3, x4, x5] = true := decide_eq_true iA
            by_cases iB : 0 ≤ insV [y0, y1, y2, y3, y4, y5] k
            · have jB : inB k [y0, y1, y2, y3, y4, y5] = true := decide_eq_true iB
              have hp : ClM.piece k [x0, x1, x2, x3, x4, x5] [y0, y1, y2, y3, y4, y5] = [[x0, x1, x2, x3, x4, x5]] := by unfold ClM.piece; rw [jA, jB]; rfl
              have HP := Lib.hid hp
              clear jA jB hp
              go_upto_region 14 with (fail)
              go_wp2_with (at_builtin; refine app_one rfl (.tmp 50) (.tmp 52) rfl W0.heap.size _ _ _ rfl (HO3.out.alloc _) w3.heap.size 1 [x0, x1, x2, x3, x4, x5] rfl rfl (blk_alloc_at _ _ _ rfl) (by first | omega | (simp; omega)) (by simp; omega) ?_; intro v4 w4 ho4 hg4)
              have L4 : Below W0.heap.size W0 w4 := (L3.alloc (by omega) _).grown hg4 (by simp; omega) (fun j hj => (HO3.out.lt j hj).1)
              exact ⟨⟨j + 1, by omega, by go_num, Lib.hid (by rw [HS.out, HP.out]; simpa using ho4), L4⟩, by simp [intOf]; omega⟩
            · have jB : inB k [y0, y1, y2, y3, y4, y5] = false := decide_eq_false iB
              have hp : ClM.piece k [x0, x1, x2, x3, x4, x5] [y0, y1, y2, y3, y4, y5] = [[x0, x1, x2, x3, x4, x5], cutV [x0, x1, x2, x3, x4, x5] [y0, y1, y2, y3, y4, y5] k] := by unfold ClM.piece; rw [jA, jB]; rfl
              have HP := Lib.hid hp
              clear jA jB hp
              go_upto_region 16 with (at_builtin; refine app_one rfl (.tmp 50) (.tmp 52) rfl W0.heap.size _ _ _ rfl (HO3.out.alloc _) w3.heap.size 1 [x0, x1, x2, x3, x4, x5] rfl rfl (blk_alloc_at _ _ _ rfl) (by first | omega | (simp; omega)) (by simp; omega) ?_; intro v4 w4 ho4 hg4)
              have L4 : Below W0.heap.size W0 w4 := (L3.alloc (by omega) _).grown hg4 (by simp; omega) (fun j hj => (HO3.out.lt j hj).1)
              have bA4 : blk w4 g12 = some (.cells (cs .i64 [x0, x1, x2, x3, x4, x5]) 25 (0, 0)) := (hg4.block _ (by simp; omega) (fun e => by have := OWN.out _ e.symm; omega)).trans ((blk_alloc_old _ _ _ s3).trans bA3)
              have bB4 : blk w4 g13 = some (.cells (cs .i64 [y0, y1, y2, y3, y4, y5]) 25 (0, 0)) := (hg4.block _ (by simp; omega) (fun e => by have := OWN.out _ e.symm; omega)).trans ((blk_alloc_old _ _ _ s4).trans bB3)
              have g4 := hg4.size
              simp only [World.size_alloc] at g4
              have HO4 := Lib.hid ho4
              clear hg4 ho4 p0 p1 p2 p3 p4 p5 q0 q1 q2 q3 q4 q5
              have p0 : w4.cell? ⟨g12, 0, none⟩ = some (.int .i64 x0) := by rw [blk_cell bA4]; rfl
              have q0 : w4.cell? ⟨g13, 0, none⟩ = some (.int .i64 y0) := by rw [blk_cell bB4]; rfl
              have p1 : w4.cell? ⟨g12, 1, none⟩ = some (.int .i64 x1) := by rw [blk_cell bA4]; rfl
              have q1 : w4.cell? ⟨g13, 1, none⟩ = some (.int .i64 y1) := by rw [blk_cell bB4]; rfl
              have p2 : w4.cell? ⟨g12, 2, none⟩ = some (.int .i64 x2) := by rw [blk_cell bA4]; rfl
              have q2 : w4.cell? ⟨g13, 2, none⟩ = some (.int .i64 y2) := by rw [blk_cell bB4]; rfl
              have p3 : w4.cell? ⟨g12, 3, none⟩ = some (.int .i64 x3) := by rw [blk_cell bA4]; rfl
              have q3 : w4.cell? ⟨g13, 3, none⟩ = some (.int .i64 y3) := by rw [blk_cell bB4]; rfl
              have p4 : w4.cell? ⟨g12, 4, none⟩ = some (.int .i64 x4) := by rw [blk_cell bA4]; rfl
              have q4 : w4.cell? ⟨g13, 4, none⟩ = some (.int .i64 y4) := by rw [blk_cell bB4]; rfl
              have p5 : w4.cell? ⟨g12, 5, none⟩ = some (.int .i64 x5) := by rw [blk_cell bA4]; rfl
              have q5 : w4.cell? ⟨g13, 5, none⟩ = some (.int .i64 y5) := by rw [blk_cell bB4]; rfl
              have CC : Hid (∀ W : World, Calls Try.prog 39 #[.agg #[.int .i64 x0, .int .i64 x1, .int .i64 x2, .int .i64 x3, .int .i64 x4, .int .i64 x5], .agg #[.int .i64 y0, .int .i64 y1, .int .i64 y2, .int .i64 y3, .int .i64 y4, .int .i64 y5], .int .i64 k] W fun e w' => e = .returned (.agg (cs .i64 (cutV [x0, x1, x2, x3, x4, x5] [y0, y1, y2, y3, y4, y5] k))) ∧ Below W.heap.size W w') := fun W => rcut_any [x0, x1, x2, x3, x4, x5] [y0, y1, y2, y3, y4, y5] VA.out VB.out k W
              go_wp2_with fail
              refine (CC.out _).mono ?_
              rintro e w5 ⟨rfl, hb5⟩
              have HO5 := Lib.hid (owns_below HO4.out hb5)
              have hs5 := hb5.size
              have L5 : Below W0.heap.size W0 w5 := by repeat' (first | (with_reducible exact Below.refl _ _) | (with_reducible refine Rd.below_step ?_ (by assumption)) | (with_reducible refine Rd.below_alloc ?_ _) | (with_reducible refine Rd.below_drewN ?_ _) | (with_reducible refine Below.drew ?_) | (with_reducible refine Below.setCell ?_ ?_ _) | (with_reducible refine Rd.below_setRow ?_ ?_ _) | go_size | (simp only [World.size_alloc]; omega) | omega)
              have cl : (cutV [x0, x1, x2, x3, x4, x5] [y0, y1, y2, y3, y4, y5] k).length = 6 := rfl
              clear hb5 CC
              go_wp2_with (at_builtin; refine app_one rfl (.tmp 60) (.tmp 65) rfl W0.heap.size _ _ _ rfl (HO5.out.alloc _) w5.heap.size 1 (cutV [x0, x1, x2, x3, x4, x5] [y0, y1, y2, y3, y4, y5] k) rfl rfl (blk_alloc_at _ _ _ rfl) (by first | omega | (simp; omega)) (by simp; omega) ?_; intro v6 w6 ho6 hg6)
              have L6 : Below W0.heap.size W0 w6 := (L5.alloc (by omega) _).grown hg6 (by simp; omega) (fun j hj => (HO5.out.lt j hj).1)
              exact ⟨⟨j + 1, by omega, by go_num, Lib.hid (by rw [HS.out, HP.out]; simpa using ho6), L6⟩, by simp [intOf]; omega⟩
          · have jA : inB k [x0, x1, x2, x3, x4, x5] = false := decide_eq_false iA
            by_cases iB : 0 ≤ insV [y0, y1, y2, y3, y4, y5] k
            · have jB : inB k [y0, y1, y2, y3, y4, y5] = true := decide_eq_true iB
              have hp : ClM.piece k [x0, x1, x2, x3, x4, x5] [y0, y1, y2, y3, y4, y5] = [cutV [y0, y1, y2, y3, y4, y5] [x0, x1, x2, x3, x4, x5] k] := by unfold ClM.piece; rw [jA, jB]; rfl
              have HP := Lib.hid hp
              clear jA jB hp
              have CC : Hid (∀ W : World, Calls Try.prog 39 #[.agg #[.int .i64 y0, .int .i64 y1, .int .i64 y2, .int .i64 y3, .int .i64 y4, .int .i64 y5], .agg #[.int .i64 x0, .int .i64 x1, .int .i64 x2, .int .i64 x3, .int .i64 x4, .int .i64 x5], .int .i64 k] W fun e w' => e = .returned (.agg (cs .i64 (cutV [y0, y1, y2, y3, y4, y5] [x0, x1, x2, x3, x4, x5] k))) ∧ Below W.heap.size W w') := fun W => rcut_any [y0, y1, y2, y3, y4, y5] [x0, x1, x2, x3, x4, x5] VB.out VA.out k W
              go_wp2_with fail
              refine (CC.out _).mono ?_
              rintro e w4 ⟨rfl, hb4⟩
              have HO4 := Lib.hid (owns_below HO3.out hb4)
              have hs4 := hb4.size
              have L4 : Below W0.heap.size W0 w4 := by repeat' (first | (with_reducible exact Below.refl _ _) | (with_reducible refine Rd.below_step ?_ (by assumption)) | (with_reducible refine Rd.below_alloc ?_ _) | (with_reducible refine Rd.below_drewN ?_ _) | (with_reducible refine Below.drew ?_) | (with_reducible refine Below.setCell ?_ ?_ _) | (with_reducible refine Rd.below_setRow ?_ ?_ _) | go_size | (simp only [World.size_alloc]; omega) | omega)
              have cl : (cutV [y0, y1, y2, y3, y4, y5] [x0, x1, x2, x3, x4, x5] k).length = 6 := rfl
              clear hb4 CC
              go_wp2_with (at_builtin; refine app_one rfl (.tmp 73) (.tmp 78) rfl W0.heap.size _ _ _ rfl (HO4.out.alloc _) w4.heap.size 1 (cutV [y0, y1, y2, y3, y4, y5] [x0, x1, x2, x3, x4, x5] k) rfl rfl (blk_alloc_at _ _ _ rfl) (by first | omega | (simp; omega)) (by simp; omega) ?_; intro v5 w5 ho5 hg5)
              have L5 : Below W0.heap.size W0 w5 := (L4.alloc (by omega) _).grown hg5 (by simp; omega) (fun j hj => (HO4.out.lt j hj).1)
              exact ⟨⟨j + 1, by omega, by go_num, Lib.hid (by rw [HS.out, HP.out]; simpa using ho5), L5⟩, by simp [intOf]; omega⟩
            · have jB : inB k [y0, y1, y2, y3, y4, y5] = false := decide_eq_false iB
              have hp : ClM.piece k [x0, x1, x2, x3, x4, x5] [y0, y1, y2, y3, y4, y5] = [] := by unfold ClM.piece; rw [jA, jB]; rfl
              have HP := Lib.hid hp
              clear jA jB hp
              go_wp2
              exact ⟨⟨j + 1, by omega, by go_num, Lib.hid (by rw [HS.out, HP.out]; simpa using HO3.out), L3⟩, by simp [intOf]; omega⟩
        · obtain rfl : j = m := by omega
          have hw' : withinK k R j = ClM.within k R := by rw [← withinK_all, HW.out.1]
          rw [hw'] at HO
          have h6 : ∀ v ∈ ClM.within k R, v.length = 6 := fun v hv => by
            rw [← withinK_all] at hv
            exact (withinK_vx VR.out (Nat.le_refl _) v hv).len
          obtain ⟨a', cap', e5, _⟩ := owns_val HO.out
          subst e5
          have HRr := Lib.hid (rowAt_owns HO.out h6).2
          have LW : Below w.heap.size w W := hb.trans (hbW.mono hb.size)
          clear hw' HO h6
          go_wp2
          exact ⟨⟨k + 1, by omega, by go_num, Or.inr hn3, ⟨a', cap', _, rfl, ⟨by rw [NXT.out], by rw [NXT.out]; exact HRr.out⟩⟩, LW⟩, by simp [intOf]; omega⟩
    · obtain rfl : k = 7 := by omega
      by_cases hm3 : m < 3
      · have hp : polyV row = [] := poly_early (k := 7) (by omega) (by rw [ER.out, HW.out.1]; exact hm3)
        have HPp := Lib.hid hp
        clear hp
        have hm3' : (m : Int) < 3 := by omega
        go_wp2
        go_ret
        rw [HPp.out]
        exact ⟨⟨none, 0, rfl, ⟨fun v hv => (by cases hv), Or.inl rfl⟩⟩, by repeat' (first | (with_reducible exact Below.refl _ _) | (with_reducible refine Rd.below_step ?_ (by assumption)) | (with_reducible refine Rd.below_alloc ?_ _) | (with_reducible refine Rd.below_drewN ?_ _) | (with_reducible refine Below.drew ?_) | (with_reducible refine Below.setCell ?_ ?_ _) | (with_reducible refine Rd.below_setRow ?_ ?_ _) | go_size | (simp only [World.size_alloc]; omega) | omega)⟩
      · have hp : polyV row = R := by
          unfold polyV
          rw [if_neg (by rw [HN.out]; rcases H30.out with h | h <;> omega), if_neg (by rw [ER.out, HW.out.1]; exact hm3), ER.out]
        have HPp := Lib.hid hp
        clear hp
        have hm3' : ¬ (m : Int) < 3 := by omega
        go_wp2
        go_ret
        rw [HPp.out]
        exact ⟨⟨ad', ⟨c', by rw [HW.out.1]; rfl⟩, HW.out.2.1, HW.out.2.2⟩, by repeat' (first | (with_reducible exact Below.refl _ _) | (with_reducible refine Rd.below_step ?_ (by assumption)) | (with_reducible refine Rd.below_alloc ?_ _) | (with_reducible refine Rd.below_drewN ?_ _) | (with_reducible refine Below.drew ?_) | (with_reducible refine Below.setCell ?_ ?_ _) | (with_reducible refine Rd.below_setRow ?_ ?_ _) | go_size | (simp only [World.size_alloc]; omega) | omega)⟩
end Go.Proofs.Ytimfjogallcgnaa.ClG
