/-
  The walk of the law that a greater slope is no finer.
-/
import Derived.Test.YtacplecebhmeiaaLevelD
namespace Go.Proofs.Ytacplecebhmeiaa.LevelE
open Go.RowKit Rd Alk Log Level LevelB LevelD
set_option linter.unusedVariables false
set_option linter.unusedSimpArgs false
set_option maxRecDepth 10000

theorem pow_le {i j : Nat} (h : i ≤ j) : (2 : Int) ^ i ≤ 2 ^ j := by
  have : (2 : Nat) ^ i ≤ 2 ^ j := Nat.pow_le_pow_right (by omega) h
  have e : ∀ k : Nat, ((2 ^ k : Nat) : Int) = 2 ^ k := fun k => by rw [Int.natCast_pow]; rfl
  rw [← e, ← e]; omega
theorem ofR_mono (d ra rb : Int) (h0 : 0 ≤ ra) (h : ra ≤ rb) (h1 : rb ≤ 1099511627776) : (ofR d ra).1 < (ofR d rb).1 ∨ (ofR d ra).1 = (ofR d rb).1 ∧ (ofR d ra).2 ≤ (ofR d rb).2 := by
  have hb := ofR_bd d rb (by omega) h1
  by_cases hs : ra ≤ 65536
  · rw [ofR_near hs]
    simp only
    omega
  · obtain ⟨K, hK, K1, p1, p2⟩ := log2_of (ra / 65536) (by omega) (by omega)
    obtain ⟨M, hM, M1, q1, q2⟩ := log2_of (rb / 65536) (by omega) (by omega)
    have hKM : K ≤ M := by
      rcases Nat.lt_or_ge M K with h2 | h2
      · have := pow_le (i := M + 1) (j := K) (by omega)
        rw [Int.pow_succ] at this
        omega
      · exact h2
    by_cases hk : depV d ≤ (K : Int)
    · rw [ofR_far (by omega) hK hk, ofR_far (by omega) hM (by omega)]
      exact .inr ⟨rfl, by omega⟩
    · rw [ofR_mid (by omega) hK hk] at *
      by_cases hm : depV d ≤ (M : Int)
      · rw [ofR_far (by omega) hM hm]
        exact .inl (by simp; omega)
      · rw [ofR_mid (by omega) hM hm]
        rcases Nat.lt_or_eq_of_le hKM with h2 | h2
        · exact .inl (by simp; omega)
        · subst h2
          refine .inr ⟨rfl, ?_⟩
          have hB : (0 : Int) < 65536 * 2 ^ K := by
            have : (0 : Int) < 2 ^ K := Int.pow_pos (by omega)
            omega
          exact Int.ediv_le_ediv hB (by simp; omega)

theorem far_pos {a : Int} (h0 : 0 ≤ a) (h1 : a ≤ 549755813888) : farV a = a ∧ farV (-a) = a := by
  unfold farV
  constructor <;> (split <;> omega)
theorem far_0 : farV 0 = 0 := by decide

set_option maxHeartbeats 2000000 in
theorem LevelGrows_walk (a0 : Int) (a1 : Int) (a2 : Int) (w : World) (w0 : (Lit.int .i64 a0).wf = true) (w1 : (Lit.int .i64 a1).wf = true) (w2 : (Lit.int .i64 a2).wf = true) :
    Calls Try.prog 3 #[.int .i64 a0, .int .i64 a1, .int .i64 a2] w fun e w' => e = .returned (.bool true) ∧ Below w.heap.size w w' := by
  obtain ⟨k1, k2⟩ := wf_bd w0
  obtain ⟨k3, k4⟩ := wf_bd w1
  obtain ⟨k5, k6⟩ := wf_bd w2
  have CR := Lib.hid (fun W => round_any a0 4 W k1 k2 (by omega) (by omega))
  have hN : 0 ≤ a0 % 4 ∧ a0 % 4 ≤ 3 := by omega
  by_cases hg : a1 < 0 ∨ a2 < a1 ∨ 549755813888 < a2
  · have hB : (decide (a1 < 0) || decide (a2 < a1) || decide (549755813888 < a2)) = true := by simp; omega
    go_enter Try.func3, Try.ntmps3
    go_wp2_with (first
      | (go_at_call 6; refine (CR.out _).mono ?_; rintro e w' ⟨rfl, rfl⟩)
      | (go_at_call 7; refine (awake_any _).mono ?_; rintro e w' ⟨rfl, hb⟩))
    all_goals (go_ret; exact ⟨rfl, by repeat' (first | (with_reducible exact Below.refl _ _) | (with_reducible refine Rd.below_step ?_ (by assumption)) | (with_reducible refine Rd.below_alloc ?_ _) | (with_reducible refine Rd.below_drewN ?_ _) | (with_reducible refine Below.drew ?_) | (with_reducible refine Below.setCell ?_ ?_ _) | go_size)⟩)
  · have g1 : 0 ≤ a1 := by omega
    have g2 : a1 ≤ a2 := by omega
    have g3 : a2 ≤ 549755813888 := by omega
    clear hg
    have hdep : depV (a0 % 4) = a0 % 4 := by unfold depV; rw [if_neg (by omega)]
    obtain ⟨fa, fa'⟩ := far_pos g1 (by omega)
    obtain ⟨fb, fb'⟩ := far_pos (a := a2) (by omega) g3
    have t1 : topV a1 0 0 0 = a1 := by unfold topV; rw [fa, far_0]; omega
    have t2 : topV 0 0 (-a2) 0 = a2 := by unfold topV; rw [fb', far_0]; omega
    have t3 : topV 0 (-a1) 0 0 = a1 := by unfold topV; rw [fa', far_0]; omega
    have t4 : topV 0 0 0 a1 = a1 := by unfold topV; rw [fa, far_0]; omega
    have t5 : topV a1 a2 0 a1 = a2 := by unfold topV; rw [fa, fb, far_0]; omega
    have wn : (Lit.int .i64 (a0 % 4)).wf = true := wf_mk (by omega) (by omega)
    have wz : (Lit.int .i64 0).wf = true := by decide
    have wma : (Lit.int .i64 (-a1)).wf = true := wf_mk (by omega) (by omega)
    have wmb : (Lit.int .i64 (-a2)).wf = true := wf_mk (by omega) (by omega)
    have C1 := fun W => of_any (a0 % 4) a1 0 0 0 W wn w1 wz wz wz
    have C2 := fun W => of_any (a0 % 4) 0 0 (-a2) 0 W wn wz wz wmb wz
    have C3 := fun W => of_any (a0 % 4) 0 (-a1) 0 0 W wn wz wma wz wz
    have C4 := fun W => of_any (a0 % 4) 0 0 0 a1 W wn wz wz wz w1
    have C5 := fun W => of_any (a0 % 4) a1 a2 0 a1 W wn w1 w2 wz w1
    rw [t1] at C1
    rw [t2] at C2
    rw [t3] at C3
    rw [t4] at C4
    rw [t5] at C5
    have hm := ofR_mono (a0 % 4) a1 a2 g1 g2 (by omega)
    have ha := ofR_bd (a0 % 4) a1 g1 (by omega)
    have hb := ofR_bd (a0 % 4) a2 (by omega) (by omega)
    have hn : a1 ≤ 65536 → ofR (a0 % 4) a1 = (0, 0) := fun h => ofR_near h
    rw [hdep] at ha hb
    obtain ⟨⟨L, T⟩, hp⟩ : ∃ p, ofR (a0 % 4) a1 = p := ⟨_, rfl⟩
    obtain ⟨⟨M, U⟩, hq⟩ : ∃ p, ofR (a0 % 4) a2 = p := ⟨_, rfl⟩
    rw [hp] at C1 C3 C4 hm ha hn
    rw [hq] at C2 C5 hm hb
    simp only at hm ha hb
    clear hp hq t1 t2 t3 t4 t5 fa fa' fb fb' hdep wn wz wma wmb w0 w1 w2 k1 k2 k3 k4 k5 k6
    obtain ⟨N, hNe⟩ : ∃ N, a0 % 4 = N := ⟨_, rfl⟩
    rw [hNe] at ha hb CR hN C1 C2 C3 C4 C5
    have HNEAR : a1 ≤ 65536 → L = 0 ∧ T = 0 := fun h => by have := hn h; simpa using this
    clear hNe hn
    have H1 := Lib.hid C1
    have H2 := Lib.hid C2
    have H3 := Lib.hid C3
    have H4 := Lib.hid C4
    have H5 := Lib.hid C5
    clear C1 C2 C3 C4 C5
    obtain ⟨a_1, a_2, a_3, a_4, -⟩ := ha
    obtain ⟨b_1, b_2, b_3, b_4, -⟩ := hb
    have hsm : (a1 ≤ 65536 ∧ L = 0 ∧ T = 0) ∨ 65536 < a1 := by
      by_cases h : a1 ≤ 65536
      · exact .inl ⟨h, HNEAR h⟩
      · exact .inr (by omega)
    have d1 : decide (L < 0) = false := decide_eq_false (by omega)
    have d2 : decide (N < M) = false := decide_eq_false (by omega)
    have d3 : decide (T < 0) = false := decide_eq_false (by omega)
    have d4 : decide (255 < T) = false := decide_eq_false (by omega)
    have d5 : decide (M < L) = false := decide_eq_false (by omega)
    have d6 : (M == L) = false ∨ (M == L) = true ∧ decide (U < T) = false := by
      rcases hm with h | ⟨h, h'⟩
      · exact .inl (by simp; omega)
      · exact .inr ⟨by simp; omega, decide_eq_false (by omega)⟩
    clear hm
    have d7 : decide (65536 < a1) = true ∨ (decide (65536 < a1) = false ∧ L = 0 ∧ T = 0) := by
      rcases hsm with ⟨h, h'⟩ | h
      · exact .inr ⟨decide_eq_false (by omega), h'⟩
      · exact .inl (decide_eq_true h)
    clear hsm
    rcases d6 with d6 | ⟨d6, d8⟩
    all_goals
      have d7' : ∃ l t, L = l ∧ T = t ∧ (decide (65536 < a1) = true ∨ (decide (65536 < a1) = false ∧ l = 0 ∧ t = 0)) := ⟨L, T, rfl, rfl, d7⟩
      clear d7
      rcases d7' with ⟨l, t, rfl, rfl, d7 | ⟨d7, z1, z2⟩⟩
    · go_enter Try.func3, Try.ntmps3
      go_wp2_with fail
      refine (CR.out _).mono ?_
      rintro e w' ⟨rfl, rfl⟩
      go_wp2_with fail
      refine (H1.out _).mono ?_
      rintro e u1 ⟨rfl, h1⟩
      go_wp2_with fail
      refine (H2.out _).mono ?_
      rintro e u2 ⟨rfl, h2⟩
      go_upto_region 7 with (fail)
      refine name_world ?_
      intro W hW
      have kk : Below w.heap.size w W := by rw [hW]; repeat' (first | (with_reducible exact Below.refl _ _) | (with_reducible refine Rd.below_step ?_ (by assumption)) | (with_reducible refine Rd.below_alloc ?_ _) | (with_reducible refine Rd.below_drewN ?_ _) | (with_reducible refine Below.drew ?_) | (with_reducible refine Below.setCell ?_ ?_ _) | go_size)
      have f0 : W.cell? ⟨u2.heap.size, 0, none⟩ = some (.int .i64 L) := by rw [hW]; go_cell
      have f1 : W.cell? ⟨u2.heap.size, 1, none⟩ = some (.int .i64 T) := by rw [hW]; go_cell
      have f2 : W.cell? ⟨u2.heap.size + 1, 0, none⟩ = some (.int .i64 M) := by rw [hW]; go_cell
      have f3 : W.cell? ⟨u2.heap.size + 1, 1, none⟩ = some (.int .i64 U) := by rw [hW]; go_cell
      have r0 := Go.cell_regrown f0
      have r1 := Go.cell_regrown f1
      have r2 := Go.cell_regrown f2
      have r3 := Go.cell_regrown f3
      clear hW
      refine wp_region_quiet_below (by kernel_rfl) (by kernel_rfl) ?_
      repeat (go_big_quiet_step ((first
        | (with_reducible exact Calls.regrown_of (H3.out _))
        | (with_reducible exact Calls.regrown_of (H4.out _))
        | (with_reducible exact Calls.regrown_of (H5.out _))
        | exact Calls.regrown_of (awake_any _))))
      refine wpQuiet_nil ?_
      intro _ hw'
      obtain ⟨⟨dq, osq⟩, hw''⟩ := hw'
      subst hw''
      go_wp2
      go_ret
      exact ⟨rfl, below_step kk (below_regrown W dq osq)⟩
    · subst z1; subst z2
      go_enter Try.func3, Try.ntmps3
      go_wp2_with fail
      refine (CR.out _).mono ?_
      rintro e w' ⟨rfl, rfl⟩
      go_wp2_with fail
      refine (H1.out _).mono ?_
      rintro e u1 ⟨rfl, h1⟩
      go_wp2_with fail
      refine (H2.out _).mono ?_
      rintro e u2 ⟨rfl, h2⟩
      go_upto_region 7 with (fail)
      refine name_world ?_
      intro W hW
      have kk : Below w.heap.size w W := by rw [hW]; repeat' (first | (with_reducible exact Below.refl _ _) | (with_reducible refine Rd.below_step ?_ (by assumption)) | (with_reducible refine Rd.below_alloc ?_ _) | (with_reducible refine Rd.below_drewN ?_ _) | (with_reducible refine Below.drew ?_) | (with_reducible refine Below.setCell ?_ ?_ _) | go_size)
      have f0 : W.cell? ⟨u2.heap.size, 0, none⟩ = some (.int .i64 0) := by rw [hW]; go_cell
      have f1 : W.cell? ⟨u2.heap.size, 1, none⟩ = some (.int .i64 0) := by rw [hW]; go_cell
      have f2 : W.cell? ⟨u2.heap.size + 1, 0, none⟩ = some (.int .i64 M) := by rw [hW]; go_cell
      have f3 : W.cell? ⟨u2.heap.size + 1, 1, none⟩ = some (.int .i64 U) := by rw [hW]; go_cell
      have r0 := Go.cell_regrown f0
      have r1 := Go.cell_regrown f1
      have r2 := Go.cell_regrown f2
      have r3 := Go.cell_regrown f3
      clear hW
      refine wp_region_quiet_below (by kernel_rfl) (by kernel_rfl) ?_
      repeat (go_big_quiet_step ((first
        | (with_reducible exact Calls.regrown_of (H3.out _))
        | (with_reducible exact Calls.regrown_of (H4.out _))
        | (with_reducible exact Calls.regrown_of (H5.out _))
        | exact Calls.regrown_of (awake_any _))))
      refine wpQuiet_nil ?_
      intro _ hw'
      obtain ⟨⟨dq, osq⟩, hw''⟩ := hw'
      subst hw''
      go_wp2
      go_ret
      exact ⟨rfl, below_step kk (below_regrown W dq osq)⟩
    · go_enter Try.func3, Try.ntmps3
      go_wp2_with fail
      refine (CR.out _).mono ?_
      rintro e w' ⟨rfl, rfl⟩
      go_wp2_with fail
      refine (H1.out _).mono ?_
      rintro e u1 ⟨rfl, h1⟩
      go_wp2_with fail
      refine (H2.out _).mono ?_
      rintro e u2 ⟨rfl, h2⟩
      go_upto_region 7 with (fail)
      refine name_world ?_
      intro W hW
      have kk : Below w.heap.size w W := by rw [hW]; repeat' (first | (with_reducible exact Below.refl _ _) | (with_reducible refine Rd.below_step ?_ (by assumption)) | (with_reducible refine Rd.below_alloc ?_ _) | (with_reducible refine Rd.below_drewN ?_ _) | (with_reducible refine Below.drew ?_) | (with_reducible refine Below.setCell ?_ ?_ _) | go_size)
      have f0 : W.cell? ⟨u2.heap.size, 0, none⟩ = some (.int .i64 L) := by rw [hW]; go_cell
      have f1 : W.cell? ⟨u2.heap.size, 1, none⟩ = some (.int .i64 T) := by rw [hW]; go_cell
      have f2 : W.cell? ⟨u2.heap.size + 1, 0, none⟩ = some (.int .i64 M) := by rw [hW]; go_cell
      have f3 : W.cell? ⟨u2.heap.size + 1, 1, none⟩ = some (.int .i64 U) := by rw [hW]; go_cell
      have r0 := Go.cell_regrown f0
      have r1 := Go.cell_regrown f1
      have r2 := Go.cell_regrown f2
      have r3 := Go.cell_regrown f3
      clear hW
      refine wp_region_quiet_below (by kernel_rfl) (by kernel_rfl) ?_
      repeat (go_big_quiet_step ((first
        | (with_reducible exact Calls.regrown_of (H3.out _))
        | (with_reducible exact Calls.regrown_of (H4.out _))
        | (with_reducible exact Calls.regrown_of (H5.out _))
        | exact Calls.regrown_of (awake_any _))))
      refine wpQuiet_nil ?_
      intro _ hw'
      obtain ⟨⟨dq, osq⟩, hw''⟩ := hw'
      subst hw''
      go_wp2
      go_ret
      exact ⟨rfl, below_step kk (below_regrown W dq osq)⟩
    · subst z1; subst z2
      go_enter Try.func3, Try.ntmps3
      go_wp2_with fail
      refine (CR.out _).mono ?_
      rintro e w' ⟨rfl, rfl⟩
      go_wp2_with fail
      refine (H1.out _).mono ?_
      rintro e u1 ⟨rfl, h1⟩
      go_wp2_with fail
      refine (H2.out _).mono ?_
      rintro e u2 ⟨rfl, h2⟩
      go_upto_region 7 with (fail)
      refine name_world ?_
      intro W hW
      have kk : Below w.heap.size w W := by rw [hW]; repeat' (first | (with_reducible exact Below.refl _ _) | (with_reducible refine Rd.below_step ?_ (by assumption)) | (with_reducible refine Rd.below_alloc ?_ _) | (with_reducible refine Rd.below_drewN ?_ _) | (with_reducible refine Below.drew ?_) | (with_reducible refine Below.setCell ?_ ?_ _) | go_size)
      have f0 : W.cell? ⟨u2.heap.size, 0, none⟩ = some (.int .i64 0) := by rw [hW]; go_cell
      have f1 : W.cell? ⟨u2.heap.size, 1, none⟩ = some (.int .i64 0) := by rw [hW]; go_cell
      have f2 : W.cell? ⟨u2.heap.size + 1, 0, none⟩ = some (.int .i64 M) := by rw [hW]; go_cell
      have f3 : W.cell? ⟨u2.heap.size + 1, 1, none⟩ = some (.int .i64 U) := by rw [hW]; go_cell
      have r0 := Go.cell_regrown f0
      have r1 := Go.cell_regrown f1
      have r2 := Go.cell_regrown f2
      have r3 := Go.cell_regrown f3
      clear hW
      refine wp_region_quiet_below (by kernel_rfl) (by kernel_rfl) ?_
      repeat (go_big_quiet_step ((first
        | (with_reducible exact Calls.regrown_of (H3.out _))
        | (with_reducible exact Calls.regrown_of (H4.out _))
        | (with_reducible exact Calls.regrown_of (H5.out _))
        | exact Calls.regrown_of (awake_any _))))
      refine wpQuiet_nil ?_
      intro _ hw'
      obtain ⟨⟨dq, osq⟩, hw''⟩ := hw'
      subst hw''
      go_wp2
      go_ret
      exact ⟨rfl, below_step kk (below_regrown W dq osq)⟩

end Go.Proofs.Ytacplecebhmeiaa.LevelE
