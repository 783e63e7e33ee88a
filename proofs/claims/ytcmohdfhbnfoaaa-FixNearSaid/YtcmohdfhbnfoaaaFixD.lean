/-
  What Lerp and Log2 answer, and those of the document's own answer.
-/
import Derived.Test.YtcmohdfhbnfoaaaFixC
import Derived.LoopTactic
namespace Go.Proofs.Ytcmohdfhbnfoaaa.FixD
open Go.RowKit FixA FixB FixC
set_option linter.unusedVariables false
set_option linter.unusedSimpArgs false
set_option maxRecDepth 2000

theorem lerp_fits {a b t : Int} (h : okB a = true) (h' : okB b = true) (t1 : 0 ≤ t) (t2 : t ≤ 65536) : -281474976710656 ≤ t * (b - a) ∧ t * (b - a) ≤ 281474976710656 := by
  have ⟨a1, a2⟩ := ok_yes h
  have ⟨b1, b2⟩ := ok_yes h'
  rcases Int.le_total 0 (b - a) with ha | ha
  · have k1 : 0 ≤ t * (b - a) := Int.mul_nonneg t1 ha
    have k2 : t * (b - a) ≤ 65536 * 4294967296 := Int.mul_le_mul t2 (by omega) ha (by omega)
    omega
  · have k1 : 0 ≤ t * -(b - a) := Int.mul_nonneg t1 (by omega)
    have k2 : t * -(b - a) ≤ 65536 * 4294967296 := Int.mul_le_mul t2 (by omega) (by omega) (by omega)
    rw [Int.mul_neg] at k1 k2
    omega

theorem lerp_any (a b t : Int) (w : World) (w0 : (Lit.int .i64 a).wf = true) (w1 : (Lit.int .i64 b).wf = true) (w2 : (Lit.int .i64 t).wf = true) :
    Calls Try.prog 17 #[.int .i64 a, .int .i64 b, .int .i64 t] w fun e w' => e = .returned (two (lerpV a b t)) ∧ ∃ k, w' = w.drewN k := by
  cases h : okB a
  · have e1 : lerpV a b t = (0, 2) := by simp [lerpV, h]
    go_enter Try.func17, Try.ntmps17
    go_wp2_with (go_at_call 19; refine (ok_any _ _ (by assumption)).mono ?_; rintro e w' ⟨rfl, rfl⟩)
    go_ret2
    exact ⟨by (try rw [e1]) <;> rfl, 0, rfl⟩
  · cases h' : okB b
    · have e1 : lerpV a b t = (0, 2) := by simp [lerpV, h, h']
      go_enter Try.func17, Try.ntmps17
      go_wp2_with (go_at_call 19; refine (ok_any _ _ (by assumption)).mono ?_; rintro e w' ⟨rfl, rfl⟩)
      go_ret2
      exact ⟨by (try rw [e1]) <;> rfl, 0, rfl⟩
    · by_cases ht : t < 0 ∨ 65536 < t
      · have e1 : lerpV a b t = (0, 1) := by simp [lerpV, h, h', ht]
        rcases ht with ht | ht
        · go_enter Try.func17, Try.ntmps17
          go_wp2_with (go_at_call 19; refine (ok_any _ _ (by assumption)).mono ?_; rintro e w' ⟨rfl, rfl⟩)
          go_ret2
          exact ⟨by (try rw [e1]) <;> rfl, 0, rfl⟩
        · have ht' : ¬ t < 0 := by omega
          go_enter Try.func17, Try.ntmps17
          go_wp2_with (go_at_call 19; refine (ok_any _ _ (by assumption)).mono ?_; rintro e w' ⟨rfl, rfl⟩)
          go_ret2
          exact ⟨by (try rw [e1]) <;> rfl, 0, rfl⟩
      · have e1 : lerpV a b t = (a + near (t * (b - a)) 65536, 0) := by simp [lerpV, h, h', ht]
        have t1 : 0 ≤ t := by omega
        have t2 : t ≤ 65536 := by omega
        clear ht
        have ⟨m1, m2⟩ := lerp_fits h h' t1 t2
        have ⟨n1, n2⟩ := near_bd (t * (b - a)) 65536 281474976710656 (by omega) m1 m2
        have ⟨a1, a2⟩ := ok_yes h
        have ⟨b1, b2⟩ := ok_yes h'
        go_enter Try.func17, Try.ntmps17
        go_wp2_with (first
            | (go_at_call 19; refine (ok_any _ _ (by assumption)).mono ?_; rintro e w' ⟨rfl, rfl⟩)
            | (go_at_call 26; refine (nearest_any (t * (b - a)) 65536 _ (by omega) (by omega) (by omega) (by omega)).mono ?_; rintro e w' ⟨rfl, k, rfl⟩))
        go_ret2
        exact ⟨by (try rw [e1]) <;> rfl, _, rfl⟩

theorem rlerp_any (a b t : Int) (w : World) (w0 : (Lit.int .i64 a).wf = true) (w1 : (Lit.int .i64 b).wf = true) (w2 : (Lit.int .i64 t).wf = true) :
    Calls Try.prog 18 #[.int .i64 a, .int .i64 b, .int .i64 t] w fun e w' => e = .returned (two (lerpV a b t)) ∧ w = w' := by
  cases h : okB a
  · have e1 : lerpV a b t = (0, 2) := by simp [lerpV, h]
    go_enter Try.func18, Try.ntmps18
    go_wp2_with (go_at_call 20; refine (rok_any _ _ (by assumption)).mono ?_; rintro e w' ⟨rfl, rfl⟩)
    go_ret2
    exact ⟨by (try rw [e1]) <;> rfl, rfl⟩
  · cases h' : okB b
    · have e1 : lerpV a b t = (0, 2) := by simp [lerpV, h, h']
      go_enter Try.func18, Try.ntmps18
      go_wp2_with (go_at_call 20; refine (rok_any _ _ (by assumption)).mono ?_; rintro e w' ⟨rfl, rfl⟩)
      go_ret2
      exact ⟨by (try rw [e1]) <;> rfl, rfl⟩
    · by_cases ht : t < 0 ∨ 65536 < t
      · have e1 : lerpV a b t = (0, 1) := by simp [lerpV, h, h', ht]
        rcases ht with ht | ht
        · go_enter Try.func18, Try.ntmps18
          go_wp2_with (go_at_call 20; refine (rok_any _ _ (by assumption)).mono ?_; rintro e w' ⟨rfl, rfl⟩)
          go_ret2
          exact ⟨by (try rw [e1]) <;> rfl, rfl⟩
        · have ht' : ¬ t < 0 := by omega
          go_enter Try.func18, Try.ntmps18
          go_wp2_with (go_at_call 20; refine (rok_any _ _ (by assumption)).mono ?_; rintro e w' ⟨rfl, rfl⟩)
          go_ret2
          exact ⟨by (try rw [e1]) <;> rfl, rfl⟩
      · have e1 : lerpV a b t = (a + near (t * (b - a)) 65536, 0) := by simp [lerpV, h, h', ht]
        have t1 : 0 ≤ t := by omega
        have t2 : t ≤ 65536 := by omega
        clear ht
        have ⟨m1, m2⟩ := lerp_fits h h' t1 t2
        have ⟨n1, n2⟩ := near_bd (t * (b - a)) 65536 281474976710656 (by omega) m1 m2
        have ⟨a1, a2⟩ := ok_yes h
        have ⟨b1, b2⟩ := ok_yes h'
        go_enter Try.func18, Try.ntmps18
        go_wp2_with (first
            | (go_at_call 20; refine (rok_any _ _ (by assumption)).mono ?_; rintro e w' ⟨rfl, rfl⟩)
            | (go_at_call 27; refine (rnear_any (t * (b - a)) 65536 _ (by omega) (by omega) (by omega) (by omega)).mono ?_; rintro e w' ⟨rfl, rfl⟩))
        go_ret2
        exact ⟨by (try rw [e1]) <;> rfl, rfl⟩

theorem log2_half {n : Int} (h0 : 0 < n) (h : n ≤ 9223372036854775807) : log2V n = log2V (n / 2) + 1 := by
  unfold log2V
  rw [if_neg (by omega)]
  have e := Lib.bitLen_half n.toNat (by omega) (by omega)
  by_cases h1 : n / 2 < 1
  · rw [if_pos h1]
    have : n.toNat = 1 := by omega
    rw [this] at e ⊢
    have : Lib.bitLen 1 = 1 := by decide
    omega
  · rw [if_neg h1, e]
    have : n.toNat / 2 = (n / 2).toNat := by omega
    rw [this]; omega

theorem log2_any (n : Int) (w : World) (w0 : (Lit.int .i64 n).wf = true) :
    Calls Try.prog 21 #[.int .i64 n] w fun e w' => e = .returned (.int .i64 (log2V n)) ∧ w = w' := by
  have ⟨b0, b1⟩ := wf_bd w0
  by_cases h : n < 1
  · have e1 : log2V n = -1 := by simp [log2V, h]
    go_enter Try.func21, Try.ntmps21
    go_wp2
    go_ret
    exact ⟨by (try rw [e1]) <;> rfl, rfl⟩
  · have h0 : 1 ≤ n := by omega
    have e1 : log2V n = (Lib.bitLen n.toNat : Int) - 1 := by simp [log2V, h]
    have bl : Lib.bitLen n.toNat ≤ 64 := Lib.bitLen_le _ 64 (by omega) (by omega)
    clear h
    go_enter Try.func21, Try.ntmps21
    go_wp2_with (go_at_call 28; refine (Try.bits_Len _ _ (by omega) (by omega)).mono ?_; rintro e w' ⟨rfl, rfl⟩)
    go_ret
    exact ⟨by (try rw [e1]) <;> rfl, rfl⟩

theorem log2_lo {n : Int} (h0 : 0 < n) (h : n ≤ 9223372036854775807) : 0 ≤ log2V n := by
  unfold log2V
  rw [if_neg (by omega)]
  have e := Lib.bitLen_half n.toNat (by omega) (by omega)
  omega
theorem log2_hi {n : Int} (h : n ≤ 9223372036854775807) : -1 ≤ log2V n ∧ log2V n ≤ 63 := by
  unfold log2V
  split
  · omega
  · have := Lib.bitLen_le n.toNat 64 (by omega) (by omega)
    omega
theorem log2_none {n : Int} (h : n < 1) : log2V n = -1 := by simp [log2V, h]

theorem rlog2_any (n : Int) (w : World) (w0 : (Lit.int .i64 n).wf = true) :
    Calls Try.prog 22 #[.int .i64 n] w fun e w' => e = .returned (.int .i64 (log2V n)) ∧ w = w' := by
  have ⟨b0, b1⟩ := wf_bd w0
  go_enter Try.func22, Try.ntmps22
  go_wp2
  go_loop [0, 3] (fun a b => ∃ x k : Int, x ≤ n ∧ (n < 1 → x < 1) ∧ -1 ≤ k ∧ log2V n = k + 1 + log2V x ∧ a = .int .i64 x ∧ b = .int .i64 k) (fun a _ => (intOf a).toNat)
  case atStart => exact ⟨n, -1, by omega, fun h => h, by omega, by omega, rfl, rfl⟩
  case round =>
    obtain ⟨x, k, hx, hx1, hk, he, rfl, rfl⟩ := hrel
    have hn := log2_hi b1
    by_cases h : 0 < x
    · have hx2 := log2_lo h (by omega)
      have HE := Lib.hid he
      have HH := Lib.hid (log2_half h (by omega))
      have hk2 : k ≤ 63 := by omega
      clear he hn hx2
      go_wp2
      go_ways
      go_round
      case rel => exact ⟨x / 2, k + 1, by omega, by omega, by omega, by rw [HE.out, HH.out]; omega, by go_num, by go_num⟩
      case measure => simp [intOf]; omega
    · have hl : log2V n = k := by rw [he, log2_none (by omega)]; omega
      have HL := Lib.hid hl
      clear he hn hl
      go_wp2
      go_ret
      exact ⟨ret_int HL.out.symm, rfl⟩
end Go.Proofs.Ytcmohdfhbnfoaaa.FixD
