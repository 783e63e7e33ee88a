/-
  The walks of the last two laws of package fix.
-/
import Derived.Test.YtcmohdfhbnfoaaaFixF
namespace Go.Proofs.Ytcmohdfhbnfoaaa.FixG
open Go.RowKit FixA FixB FixC FixD FixE FixF
set_option linter.unusedVariables false
set_option linter.unusedSimpArgs false
set_option maxRecDepth 4000

theorem add_yes {a b : Int} (h : okB a = true) (h' : okB b = true) (hs : okB (a + b) = true) : addV a b = (a + b, 0) := by
  unfold addV; rw [h, h', fits_yes hs]; rfl
theorem add_no {a b : Int} (h : okB a = true) (h' : okB b = true) (hs : okB (a + b) = false) : addV a b = (0, 2) := by
  unfold addV; rw [h, h', fits_no hs]; rfl

theorem FixSums_walk (a b c : Int) (w0 : (Lit.int .i64 a).wf = true) (w1 : (Lit.int .i64 b).wf = true) (w2 : (Lit.int .i64 c).wf = true) (w : World) :
    Calls Try.prog 7 #[.int .i64 a, .int .i64 b, .int .i64 c] w fun e w' => e = .returned (.bool true) ∧ Grown w w' := by
  by_cases hok : okB a = true ∧ okB b = true ∧ okB c = true
  · obtain ⟨ha, hb, hc⟩ := hok
    have ⟨a1, a2⟩ := ok_yes ha
    have ⟨b1, b2⟩ := ok_yes hb
    have ⟨c1, c2⟩ := ok_yes hc
    cases hs : okB (a + b)
    · have e1 := add_no ha hb hs
      have e2 := add_no hb ha (by rw [Int.add_comm]; exact hs)
      go_enter Try.func7, Try.ntmps7
      go_wp2_with (first
        | (go_at_call 20; refine (rok_any _ _ (wf_mk (by omega) (by omega))).mono ?_; rintro e w' ⟨rfl, rfl⟩)
        | (go_at_call 9; refine (add_any _ _ _ (wf_mk (by omega) (by omega)) (wf_mk (by omega) (by omega))).mono ?_; rintro e w' ⟨rfl, rfl⟩)
        | (go_at_call 23; refine (awake_any _).mono ?_; rintro e w' ⟨rfl, k, rfl⟩))
      all_goals (go_ret; exact ⟨rfl, drewN_grown (Grown.refl _) _⟩)
    · have e1 := add_yes ha hb hs
      have e2 := add_yes hb ha (by rw [Int.add_comm]; exact hs)
      rw [Int.add_comm b a] at e2
      have ⟨s1, s2⟩ := ok_yes hs
      have e3 : addV (a + b) (-a) = (b, 0) := by
        have hz : a + b + -a = b := by omega
        rw [add_yes hs (ok_mk (by omega) (by omega)) (by rw [hz]; exact hb), hz]
      have k1 := add_err (a + b) c
      have k2 := add_err b c
      cases hbc : okB (b + c)
      · have e4 := add_no hb hc hbc
        go_enter Try.func7, Try.ntmps7
        go_wp2_with (first
          | (go_at_call 20; refine (rok_any _ _ (wf_mk (by omega) (by omega))).mono ?_; rintro e w' ⟨rfl, rfl⟩)
          | (go_at_call 9; refine (add_any _ _ _ (wf_mk (by omega) (by omega)) (wf_mk (by omega) (by omega))).mono ?_; rintro e w' ⟨rfl, rfl⟩)
          | (go_at_call 23; refine (awake_any _).mono ?_; rintro e w' ⟨rfl, k, rfl⟩))
        all_goals (go_ret; exact ⟨rfl, drewN_grown (Grown.refl _) _⟩)
      · have e4 := add_yes hb hc hbc
        have ⟨t1, t2⟩ := ok_yes hbc
        cases habc : okB (a + b + c)
        · have e5 := add_no hs hc habc
          have e6 := add_no ha hbc (by rw [← Int.add_assoc]; exact habc)
          go_enter Try.func7, Try.ntmps7
          go_wp2_with (first
            | (go_at_call 20; refine (rok_any _ _ (wf_mk (by omega) (by omega))).mono ?_; rintro e w' ⟨rfl, rfl⟩)
            | (go_at_call 9; refine (add_any _ _ _ (wf_mk (by omega) (by omega)) (wf_mk (by omega) (by omega))).mono ?_; rintro e w' ⟨rfl, rfl⟩)
            | (go_at_call 23; refine (awake_any _).mono ?_; rintro e w' ⟨rfl, k, rfl⟩))
          all_goals (go_ret; exact ⟨rfl, drewN_grown (Grown.refl _) _⟩)
        · have e5 := add_yes hs hc habc
          have e6 := add_yes ha hbc (by rw [← Int.add_assoc]; exact habc)
          rw [← Int.add_assoc] at e6
          go_enter Try.func7, Try.ntmps7
          go_wp2_with (first
            | (go_at_call 20; refine (rok_any _ _ (wf_mk (by omega) (by omega))).mono ?_; rintro e w' ⟨rfl, rfl⟩)
            | (go_at_call 9; refine (add_any _ _ _ (wf_mk (by omega) (by omega)) (wf_mk (by omega) (by omega))).mono ?_; rintro e w' ⟨rfl, rfl⟩)
            | (go_at_call 23; refine (awake_any _).mono ?_; rintro e w' ⟨rfl, k, rfl⟩))
          all_goals (go_ret; exact ⟨rfl, drewN_grown (Grown.refl _) _⟩)
  · cases ha : okB a
    · go_enter Try.func7, Try.ntmps7
      go_wp2_with (first
        | (go_at_call 20; refine (rok_any _ _ (by assumption)).mono ?_; rintro e w' ⟨rfl, rfl⟩)
        | (go_at_call 23; refine (awake_any _).mono ?_; rintro e w' ⟨rfl, k, rfl⟩))
      all_goals (go_ret; exact ⟨rfl, drewN_grown (Grown.refl _) _⟩)
    · cases hb : okB b
      · go_enter Try.func7, Try.ntmps7
        go_wp2_with (first
          | (go_at_call 20; refine (rok_any _ _ (by assumption)).mono ?_; rintro e w' ⟨rfl, rfl⟩)
          | (go_at_call 23; refine (awake_any _).mono ?_; rintro e w' ⟨rfl, k, rfl⟩))
        all_goals (go_ret; exact ⟨rfl, drewN_grown (Grown.refl _) _⟩)
      · have hc : okB c = false := by simpa [ha, hb] using hok
        clear hok
        go_enter Try.func7, Try.ntmps7
        go_wp2_with (first
          | (go_at_call 20; refine (rok_any _ _ (by assumption)).mono ?_; rintro e w' ⟨rfl, rfl⟩)
          | (go_at_call 23; refine (awake_any _).mono ?_; rintro e w' ⟨rfl, k, rfl⟩))
        all_goals (go_ret; exact ⟨rfl, drewN_grown (Grown.refl _) _⟩)

theorem round_yes {n d : Int} (h1 : 1 ≤ d) (h2 : d ≤ 1099511627776) (h3 : -2305843009213693952 ≤ n) (h4 : n ≤ 2305843009213693952) : roundV n d = (near n d, 0) := by
  unfold roundV; rw [if_neg (by omega), if_neg (by omega)]

theorem FixParts_walk (n d : Int) (w0 : (Lit.int .i64 n).wf = true) (w1 : (Lit.int .i64 d).wf = true) (w : World) :
    Calls Try.prog 8 #[.int .i64 n, .int .i64 d] w fun e w' => e = .returned (.bool true) ∧ Grown w w' := by
  by_cases h : -1099511627776 ≤ n ∧ n ≤ 1099511627776 ∧ 1 ≤ d ∧ d ≤ 1048576
  · obtain ⟨h1, h2, h3, h4⟩ := h
    have e1 := round_yes (n := n) (d := d) (by omega) (by omega) (by omega) (by omega)
    have e2 := round_yes (n := -n) (d := d) (by omega) (by omega) (by omega) (by omega)
    have e3 := round_yes (n := n) (d := 1) (by omega) (by omega) (by omega) (by omega)
    have e4 := round_yes (n := 2 * n) (d := 2 * d) (by omega) (by omega) (by omega) (by omega)
    rw [near_one] at e3
    rw [near_two _ _ (by omega)] at e4
    have l1 := near_lo n d (by omega)
    have l2 := near_hi n d (by omega)
    rw [Int.mul_assoc] at l1 l2
    have ⟨b1, b2⟩ := near_bd n d 1099511627776 (by omega) h1 h2
    rcases near_neg n d (by omega) with hn | hn
    all_goals
      rw [hn] at e2
      clear hn
      generalize near n d = q at *
      go_enter Try.func8, Try.ntmps8
      go_wp2_with (first
        | (go_at_call 15; refine (round_any _ _ _ (wf_mk (by omega) (by omega)) (wf_mk (by omega) (by omega))).mono ?_; rintro e w' ⟨rfl, k, rfl⟩)
        | (go_at_call 23; refine (awake_any _).mono ?_; rintro e w' ⟨rfl, k, rfl⟩))
      go_ways
      all_goals (go_ret; exact ⟨rfl, drewN_grown (Grown.refl _) _⟩)
  · have hB : (decide (n < -1099511627776) || decide (1099511627776 < n) || decide (d < 1) || decide (1048576 < d)) = true := by
      simp; omega
    go_enter Try.func8, Try.ntmps8
    go_wp2_with (first
      | (go_at_call 23; refine (awake_any _).mono ?_; rintro e w' ⟨rfl, k, rfl⟩))
    all_goals (go_ret; exact ⟨rfl, drewN_grown (Grown.refl _) _⟩)
end Go.Proofs.Ytcmohdfhbnfoaaa.FixG
