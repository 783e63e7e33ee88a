/-
  What the other functions of package fix answer, and those of the document's own answer.
-/
import Derived.Test.YtcmohdfhbnfoaaaFixB
namespace Go.Proofs.Ytcmohdfhbnfoaaa.FixC
open Go.RowKit FixA FixB
set_option linter.unusedVariables false
set_option linter.unusedSimpArgs false
set_option maxRecDepth 2000

theorem wf_bd {a : Int} (h : (Lit.int .i64 a).wf = true) : -9223372036854775808 ≤ a ∧ a ≤ 9223372036854775807 := by
  have h2 : (decide (IntKind.i64.min ≤ a) && decide (a ≤ IntKind.i64.max)) = true := h
  have e1 : IntKind.i64.min = -9223372036854775808 := by decide
  have e2 : IntKind.i64.max = 9223372036854775807 := by decide
  rw [e1, e2] at h2
  simpa using h2

theorem radd_any (a b : Int) (w : World) (w0 : (Lit.int .i64 a).wf = true) (w1 : (Lit.int .i64 b).wf = true) :
    Calls Try.prog 10 #[.int .i64 a, .int .i64 b] w fun e w' => e = .returned (two (addV a b)) ∧ w = w' := by
  cases h : okB a
  · have e1 : addV a b = (0, 2) := by simp [addV, h]
    go_enter Try.func10, Try.ntmps10
    go_wp2_with (go_at_call 20; refine (rok_any _ _ (by assumption)).mono ?_; rintro e w' ⟨rfl, rfl⟩)
    go_ret2
    exact ⟨by (try rw [e1]) <;> rfl, rfl⟩
  · cases h' : okB b
    · have e1 : addV a b = (0, 2) := by simp [addV, h, h']
      go_enter Try.func10, Try.ntmps10
      go_wp2_with (go_at_call 20; refine (rok_any _ _ (by assumption)).mono ?_; rintro e w' ⟨rfl, rfl⟩)
      go_ret2
      exact ⟨by (try rw [e1]) <;> rfl, rfl⟩
    · have e1 : addV a b = fitsV (a + b) := by simp [addV, h, h']
      have ⟨a1, a2⟩ := ok_yes h
      have ⟨b1, b2⟩ := ok_yes h'
      go_enter Try.func10, Try.ntmps10
      go_wp2_with (first
        | (go_at_call 20; refine (rok_any _ _ (by assumption)).mono ?_; rintro e w' ⟨rfl, rfl⟩)
        | (go_at_call 25; refine (rfits_any (a + b) _ (wf_mk (by omega) (by omega))).mono ?_; rintro e w' ⟨rfl, rfl⟩))
      go_ret2
      exact ⟨by (try rw [e1]) <;> rfl, rfl⟩

theorem rmul_any (a b : Int) (w : World) (w0 : (Lit.int .i64 a).wf = true) (w1 : (Lit.int .i64 b).wf = true) :
    Calls Try.prog 12 #[.int .i64 a, .int .i64 b] w fun e w' => e = .returned (two (mulV a b)) ∧ w = w' := by
  cases h : okB a
  · have e1 : mulV a b = (0, 2) := by simp [mulV, h]
    go_enter Try.func12, Try.ntmps12
    go_wp2_with (go_at_call 20; refine (rok_any _ _ (by assumption)).mono ?_; rintro e w' ⟨rfl, rfl⟩)
    go_ret2
    exact ⟨by (try rw [e1]) <;> rfl, rfl⟩
  · cases h' : okB b
    · have e1 : mulV a b = (0, 2) := by simp [mulV, h, h']
      go_enter Try.func12, Try.ntmps12
      go_wp2_with (go_at_call 20; refine (rok_any _ _ (by assumption)).mono ?_; rintro e w' ⟨rfl, rfl⟩)
      go_ret2
      exact ⟨by (try rw [e1]) <;> rfl, rfl⟩
    · have e1 : mulV a b = fitsV (near (a * b) 65536) := by simp [mulV, h, h']
      have ⟨m1, m2⟩ := mul_fits h h'
      go_enter Try.func12, Try.ntmps12
      go_wp2_with (first
        | (go_at_call 20; refine (rok_any _ _ (by assumption)).mono ?_; rintro e w' ⟨rfl, rfl⟩)
        | (go_at_call 27; refine (rnear_any (a * b) 65536 _ m1 m2 (by omega) (by omega)).mono ?_; rintro e w' ⟨rfl, rfl⟩)
        | (go_at_call 25; refine (rfits_any _ _ (near_wf (by omega) m1 m2)).mono ?_; rintro e w' ⟨rfl, rfl⟩))
      go_ret2
      exact ⟨by (try rw [e1]) <;> rfl, rfl⟩

theorem div_any (a b : Int) (w : World) (w0 : (Lit.int .i64 a).wf = true) (w1 : (Lit.int .i64 b).wf = true) :
    Calls Try.prog 13 #[.int .i64 a, .int .i64 b] w fun e w' => e = .returned (two (divV a b)) ∧ ∃ k, w' = w.drewN k := by
  by_cases hz : b = 0
  · have e1 : divV a b = (0, 1) := by simp [divV, hz]
    subst hz
    go_enter Try.func13, Try.ntmps13
    go_wp2
    go_ret2
    exact ⟨by (try rw [e1]) <;> rfl, 0, rfl⟩
  · have hz' : (b == 0) = false := by simpa using hz
    cases h : okB a
    · have e1 : divV a b = (0, 2) := by simp [divV, h, hz]
      go_enter Try.func13, Try.ntmps13
      go_wp2_with (go_at_call 19; refine (ok_any _ _ (by assumption)).mono ?_; rintro e w' ⟨rfl, rfl⟩)
      go_ret2
      exact ⟨by (try rw [e1]) <;> rfl, 0, rfl⟩
    · cases h' : okB b
      · have e1 : divV a b = (0, 2) := by simp [divV, h, h', hz]
        go_enter Try.func13, Try.ntmps13
        go_wp2_with (go_at_call 19; refine (ok_any _ _ (by assumption)).mono ?_; rintro e w' ⟨rfl, rfl⟩)
        go_ret2
        exact ⟨by (try rw [e1]) <;> rfl, 0, rfl⟩
      · have ⟨a1, a2⟩ := ok_yes h
        have ⟨b1, b2⟩ := ok_yes h'
        by_cases hn : b < 0
        · have e1 : divV a b = fitsV (near (65536 * -a) (-b)) := by
            rw [show (65536 : Int) * -a = -(65536 * a) by omega]; simp [divV, h, h', hz, hn]
          go_enter Try.func13, Try.ntmps13
          go_wp2_with (first
            | (go_at_call 19; refine (ok_any _ _ (by assumption)).mono ?_; rintro e w' ⟨rfl, rfl⟩)
            | (go_at_call 26; refine (nearest_any (65536 * -a) (-b) _ (by omega) (by omega) (by omega) (by omega)).mono ?_; rintro e w' ⟨rfl, k, rfl⟩)
            | (go_at_call 24; refine (fitting_any _ _ (near_wf (by omega) (by omega) (by omega))).mono ?_; rintro e w' ⟨rfl, rfl⟩))
          go_ret2
          exact ⟨by (try rw [e1]) <;> rfl, _, rfl⟩
        · have e1 : divV a b = fitsV (near (65536 * a) b) := by simp [divV, h, h', hz, hn]
          go_enter Try.func13, Try.ntmps13
          go_wp2_with (first
            | (go_at_call 19; refine (ok_any _ _ (by assumption)).mono ?_; rintro e w' ⟨rfl, rfl⟩)
            | (go_at_call 26; refine (nearest_any (65536 * a) b _ (by omega) (by omega) (by omega) (by omega)).mono ?_; rintro e w' ⟨rfl, k, rfl⟩)
            | (go_at_call 24; refine (fitting_any _ _ (near_wf (by omega) (by omega) (by omega))).mono ?_; rintro e w' ⟨rfl, rfl⟩))
          go_ret2
          exact ⟨by (try rw [e1]) <;> rfl, _, rfl⟩

theorem rdiv_any (a b : Int) (w : World) (w0 : (Lit.int .i64 a).wf = true) (w1 : (Lit.int .i64 b).wf = true) :
    Calls Try.prog 14 #[.int .i64 a, .int .i64 b] w fun e w' => e = .returned (two (divV a b)) ∧ w = w' := by
  by_cases hz : b = 0
  · have e1 : divV a b = (0, 1) := by simp [divV, hz]
    subst hz
    go_enter Try.func14, Try.ntmps14
    go_wp2
    go_ret2
    exact ⟨by (try rw [e1]) <;> rfl, rfl⟩
  · have hz' : (b == 0) = false := by simpa using hz
    cases h : okB a
    · have e1 : divV a b = (0, 2) := by simp [divV, h, hz]
      go_enter Try.func14, Try.ntmps14
      go_wp2_with (go_at_call 20; refine (rok_any _ _ (by assumption)).mono ?_; rintro e w' ⟨rfl, rfl⟩)
      go_ret2
      exact ⟨by (try rw [e1]) <;> rfl, rfl⟩
    · cases h' : okB b
      · have e1 : divV a b = (0, 2) := by simp [divV, h, h', hz]
        go_enter Try.func14, Try.ntmps14
        go_wp2_with (go_at_call 20; refine (rok_any _ _ (by assumption)).mono ?_; rintro e w' ⟨rfl, rfl⟩)
        go_ret2
        exact ⟨by (try rw [e1]) <;> rfl, rfl⟩
      · have ⟨a1, a2⟩ := ok_yes h
        have ⟨b1, b2⟩ := ok_yes h'
        by_cases hn : b < 0
        · have e1 : divV a b = fitsV (near (-a * 65536) (-b)) := by
            rw [show -a * (65536 : Int) = -(65536 * a) by omega]; simp [divV, h, h', hz, hn]
          go_enter Try.func14, Try.ntmps14
          go_wp2_with (first
            | (go_at_call 20; refine (rok_any _ _ (by assumption)).mono ?_; rintro e w' ⟨rfl, rfl⟩)
            | (go_at_call 27; refine (rnear_any (-a * 65536) (-b) _ (by omega) (by omega) (by omega) (by omega)).mono ?_; rintro e w' ⟨rfl, rfl⟩)
            | (go_at_call 25; refine (rfits_any _ _ (near_wf (by omega) (by omega) (by omega))).mono ?_; rintro e w' ⟨rfl, rfl⟩))
          go_ret2
          exact ⟨by (try rw [e1]) <;> rfl, rfl⟩
        · have e1 : divV a b = fitsV (near (a * 65536) b) := by
            rw [show a * (65536 : Int) = 65536 * a by omega]; simp [divV, h, h', hz, hn]
          go_enter Try.func14, Try.ntmps14
          go_wp2_with (first
            | (go_at_call 20; refine (rok_any _ _ (by assumption)).mono ?_; rintro e w' ⟨rfl, rfl⟩)
            | (go_at_call 27; refine (rnear_any (a * 65536) b _ (by omega) (by omega) (by omega) (by omega)).mono ?_; rintro e w' ⟨rfl, rfl⟩)
            | (go_at_call 25; refine (rfits_any _ _ (near_wf (by omega) (by omega) (by omega))).mono ?_; rintro e w' ⟨rfl, rfl⟩))
          go_ret2
          exact ⟨by (try rw [e1]) <;> rfl, rfl⟩

theorem round_any (n d : Int) (w : World) (w0 : (Lit.int .i64 n).wf = true) (w1 : (Lit.int .i64 d).wf = true) :
    Calls Try.prog 15 #[.int .i64 n, .int .i64 d] w fun e w' => e = .returned (two (roundV n d)) ∧ ∃ k, w' = w.drewN k := by
  by_cases hd : d < 1 ∨ 1099511627776 < d
  · have e1 : roundV n d = (0, 1) := by simp [roundV, hd]
    rcases hd with hd | hd
    · go_enter Try.func15, Try.ntmps15
      go_wp2
      go_ret2
      exact ⟨by (try rw [e1]) <;> rfl, 0, rfl⟩
    · have hd' : ¬ d < 1 := by omega
      go_enter Try.func15, Try.ntmps15
      go_wp2
      go_ret2
      exact ⟨by (try rw [e1]) <;> rfl, 0, rfl⟩
  · have hd1 : 1 ≤ d := by omega
    have hd2 : d ≤ 1099511627776 := by omega
    by_cases hn : n < -2305843009213693952 ∨ 2305843009213693952 < n
    · have e1 : roundV n d = (0, 2) := by simp [roundV, hd, hn]
      clear hd
      rcases hn with hn | hn
      · go_enter Try.func15, Try.ntmps15
        go_wp2
        go_ret2
        exact ⟨by (try rw [e1]) <;> rfl, 0, rfl⟩
      · have hn' : ¬ n < -2305843009213693952 := by omega
        go_enter Try.func15, Try.ntmps15
        go_wp2
        go_ret2
        exact ⟨by (try rw [e1]) <;> rfl, 0, rfl⟩
    · have e1 : roundV n d = (near n d, 0) := by simp [roundV, hd, hn]
      have hn1 : -2305843009213693952 ≤ n := by omega
      have hn2 : n ≤ 2305843009213693952 := by omega
      clear hd hn
      go_enter Try.func15, Try.ntmps15
      go_wp2_with (go_at_call 26; refine (nearest_any n d _ (by omega) (by omega) (by omega) (by omega)).mono ?_; rintro e w' ⟨rfl, k, rfl⟩)
      go_ret2
      exact ⟨by (try rw [e1]) <;> rfl, _, rfl⟩

theorem rround_any (n d : Int) (w : World) (w0 : (Lit.int .i64 n).wf = true) (w1 : (Lit.int .i64 d).wf = true) :
    Calls Try.prog 16 #[.int .i64 n, .int .i64 d] w fun e w' => e = .returned (two (roundV n d)) ∧ w = w' := by
  by_cases hd : d < 1 ∨ 1099511627776 < d
  · have e1 : roundV n d = (0, 1) := by simp [roundV, hd]
    rcases hd with hd | hd
    · go_enter Try.func16, Try.ntmps16
      go_wp2
      go_ret2
      exact ⟨by (try rw [e1]) <;> rfl, rfl⟩
    · have hd' : ¬ d < 1 := by omega
      go_enter Try.func16, Try.ntmps16
      go_wp2
      go_ret2
      exact ⟨by (try rw [e1]) <;> rfl, rfl⟩
  · have hd1 : 1 ≤ d := by omega
    have hd2 : d ≤ 1099511627776 := by omega
    by_cases hn : n < -2305843009213693952 ∨ 2305843009213693952 < n
    · have e1 : roundV n d = (0, 2) := by simp [roundV, hd, hn]
      clear hd
      rcases hn with hn | hn
      · go_enter Try.func16, Try.ntmps16
        go_wp2
        go_ret2
        exact ⟨by (try rw [e1]) <;> rfl, rfl⟩
      · have hn' : ¬ n < -2305843009213693952 := by omega
        go_enter Try.func16, Try.ntmps16
        go_wp2
        go_ret2
        exact ⟨by (try rw [e1]) <;> rfl, rfl⟩
    · have e1 : roundV n d = (near n d, 0) := by simp [roundV, hd, hn]
      have hn1 : -2305843009213693952 ≤ n := by omega
      have hn2 : n ≤ 2305843009213693952 := by omega
      clear hd hn
      go_enter Try.func16, Try.ntmps16
      go_wp2_with (go_at_call 27; refine (rnear_any n d _ (by omega) (by omega) (by omega) (by omega)).mono ?_; rintro e w' ⟨rfl, rfl⟩)
      go_ret2
      exact ⟨by (try rw [e1]) <;> rfl, rfl⟩
end Go.Proofs.Ytcmohdfhbnfoaaa.FixC
