/-
  What the functions of package fix answer, and those of the document's own answer.
-/
import Derived.Test.YtcmohdfhbnfoaaaFixA
import Derived.Test.YtcmohdfhbnfoaaaShelf
import Derived.Lib.BitFns
import Derived.Outline
import Derived.Lib.Hide
import Derived.Deep.QuietTactic
import Derived.BigQuiet
import Derived.RegionTactic
namespace Go.Proofs.Ytcmohdfhbnfoaaa.FixB
open Go.RowKit FixA
set_option linter.unusedVariables false
set_option linter.unusedSimpArgs false
set_option maxRecDepth 2000

theorem ret_int {k : IntKind} {a b : Int} (h : a = b) : Ending.returned (.int k a) = .returned (.int k b) := by rw [h]
theorem ret_bool {a b : Bool} (h : a = b) : Ending.returned (.bool a) = .returned (.bool b) := by rw [h]
theorem ret_two {k k' : IntKind} {a a' b b' : Int} (h : a = b) (h' : a' = b') : Ending.returned (.tuple #[.int k a, .int k' a']) = .returned (.tuple #[.int k b, .int k' b']) := by rw [h, h']

theorem nearest_any (n d : Int) (w : World) (h1 : -4611686018427387904 ≤ n) (h2 : n ≤ 4611686018427387904) (hz2 : 1 ≤ d) (hd2 : d ≤ 1099511627776) :
    Calls Try.prog 26 #[.int .i64 n, .int .i64 d] w fun e w' => e = .returned (.int .i64 (near n d)) ∧ ∃ k, w' = w.drewN k := by
  have F := Lib.hid (tdiv_parts n d (by omega))
  have G := Lib.hid (tdiv_bd n d 4611686018427387904 (by omega) h1 h2)
  go_enter Try.func26, Try.ntmps26
  go_wp2
  go_quiet (fail)
  obtain ⟨-, a, b, -, -⟩ := F.out
  have G' := G.out
  go_wp2
  all_goals
    go_ret
    refine ⟨ret_int ?_, _, rfl⟩
    first
      | exact (near_neg_up n d (by omega) (by omega) (by omega)).symm
      | exact (near_neg_down n d (by omega) (by omega) (by omega)).symm
      | exact (near_pos_up n d (by omega) (by omega) (by omega)).symm
      | exact (near_pos_down n d (by omega) (by omega) (by omega)).symm

theorem rdown_any (n d : Int) (w : World) (h1 : -4611686018427387904 ≤ n) (h2 : n ≤ 4611686018427387904) (hz2 : 1 ≤ d) (hd2 : d ≤ 1099511627776) :
    Calls Try.prog 29 #[.int .i64 n, .int .i64 d] w fun e w' => e = .returned (.int .i64 (n / d)) ∧ w = w' := by
  have F := Lib.hid (tdiv_parts n d (by omega))
  have G := Lib.hid (tdiv_bd n d 4611686018427387904 (by omega) h1 h2)
  go_enter Try.func29, Try.ntmps29
  obtain ⟨-, a, b, -, -⟩ := F.out
  have G' := G.out
  go_wp2
  all_goals
    go_ret
    refine ⟨ret_int ?_, rfl⟩
    first
      | exact (ediv_neg n d (by omega) (by omega)).symm
      | exact (ediv_pos n d (by omega) (by omega)).symm

theorem rnear_any (n d : Int) (w : World) (h1 : -4611686018427387904 ≤ n) (h2 : n ≤ 4611686018427387904) (hz2 : 1 ≤ d) (hd2 : d ≤ 1099511627776) :
    Calls Try.prog 27 #[.int .i64 n, .int .i64 d] w fun e w' => e = .returned (.int .i64 (near n d)) ∧ w = w' := by
  have ⟨a, b⟩ := ediv_parts n d (by omega)
  have ⟨a', b'⟩ := ediv_bd n d 4611686018427387904 (by omega) h1 h2
  go_enter Try.func27, Try.ntmps27
  go_wp2_with (go_at_call 29; refine (rdown_any n d _ h1 h2 hz2 hd2).mono ?_; rintro e w' ⟨rfl, rfl⟩)
  all_goals
    go_ret
    refine ⟨ret_int ?_, rfl⟩
    first
      | exact (near_ediv_up n d (by omega) (by omega)).symm
      | exact (near_ediv_down n d (by omega) (by omega)).symm

/-- a number in Q16.16 -/
def okB (a : Int) : Bool := decide (-2147483648 ≤ a ∧ a ≤ 2147483648)
theorem ok_yes {a : Int} (h : okB a = true) : -2147483648 ≤ a ∧ a ≤ 2147483648 := by simpa [okB] using h
theorem ok_no {a : Int} (h : okB a = false) : a < -2147483648 ∨ 2147483648 < a := by
  have : ¬ (-2147483648 ≤ a ∧ a ≤ 2147483648) := by simpa [okB] using h
  omega
theorem ok_mk {a : Int} (h1 : -2147483648 ≤ a) (h2 : a ≤ 2147483648) : okB a = true := by simp [okB]; omega
theorem ok_not {a : Int} (h : ¬ (-2147483648 ≤ a ∧ a ≤ 2147483648)) : okB a = false := by simp [okB]; omega

theorem ok_any (a : Int) (w : World) (w0 : (Lit.int .i64 a).wf = true) :
    Calls Try.prog 19 #[.int .i64 a] w fun e w' => e = .returned (.bool (okB a)) ∧ w = w' := by
  go_enter Try.func19, Try.ntmps19
  go_wp2
  · go_ret
    refine ⟨ret_bool ?_, rfl⟩
    have : -2147483648 ≤ a := by assumption
    simp [okB, this]
  · go_ret
    refine ⟨ret_bool ?_, rfl⟩
    have : a < -2147483648 := by assumption
    exact (ok_not (by omega)).symm

theorem rok_any (a : Int) (w : World) (w0 : (Lit.int .i64 a).wf = true) :
    Calls Try.prog 20 #[.int .i64 a] w fun e w' => e = .returned (.bool (okB a)) ∧ w = w' := by
  go_enter Try.func20, Try.ntmps20
  go_wp2
  · go_ret
    refine ⟨ret_bool ?_, rfl⟩
    have : -2147483648 ≤ a := by assumption
    simp [okB, this]
  · go_ret
    refine ⟨ret_bool ?_, rfl⟩
    have : a < -2147483648 := by assumption
    exact (ok_not (by omega)).symm

/-- a number and an error: what fits -/
def fitsV (a : Int) : Int × Int := if okB a then (a, 0) else (0, 2)
theorem fits_yes {a : Int} (h : okB a = true) : fitsV a = (a, 0) := by simp [fitsV, h]
theorem fits_no {a : Int} (h : okB a = false) : fitsV a = (0, 2) := by simp [fitsV, h]
def addV (a b : Int) : Int × Int := if okB a && okB b then fitsV (a + b) else (0, 2)
def mulV (a b : Int) : Int × Int := if okB a && okB b then fitsV (near (a * b) 65536) else (0, 2)
def divV (a b : Int) : Int × Int := if b = 0 then (0, 1) else if okB a && okB b then (if b < 0 then fitsV (near (-(65536 * a)) (-b)) else fitsV (near (65536 * a) b)) else (0, 2)
def roundV (n d : Int) : Int × Int := if d < 1 ∨ 1099511627776 < d then (0, 1) else if n < -2305843009213693952 ∨ 2305843009213693952 < n then (0, 2) else (near n d, 0)
def lerpV (a b t : Int) : Int × Int := if okB a && okB b then (if t < 0 ∨ 65536 < t then (0, 1) else (a + near (t * (b - a)) 65536, 0)) else (0, 2)
def log2V (n : Int) : Int := if n < 1 then -1 else (Lib.bitLen n.toNat : Int) - 1

/-- the pair as Go hands it back -/
abbrev two (p : Int × Int) : Value := .tuple #[.int .i64 p.1, .int .i64 p.2]

theorem fitting_any (a : Int) (w : World) (w0 : (Lit.int .i64 a).wf = true) :
    Calls Try.prog 24 #[.int .i64 a] w fun e w' => e = .returned (two (fitsV a)) ∧ w = w' := by
  cases h : okB a
  · have e1 := fits_no h
    go_enter Try.func24, Try.ntmps24
    go_wp2_with (go_at_call 19; refine (ok_any a _ w0).mono ?_; rintro e w' ⟨rfl, rfl⟩)
    go_ret2
    exact ⟨by (try rw [e1]) <;> rfl, rfl⟩
  · have e1 := fits_yes h
    go_enter Try.func24, Try.ntmps24
    go_wp2_with (go_at_call 19; refine (ok_any a _ w0).mono ?_; rintro e w' ⟨rfl, rfl⟩)
    go_ret2
    exact ⟨by (try rw [e1]) <;> rfl, rfl⟩

theorem rfits_any (a : Int) (w : World) (w0 : (Lit.int .i64 a).wf = true) :
    Calls Try.prog 25 #[.int .i64 a] w fun e w' => e = .returned (two (fitsV a)) ∧ w = w' := by
  cases h : okB a
  · have e1 := fits_no h
    go_enter Try.func25, Try.ntmps25
    go_wp2_with (go_at_call 20; refine (rok_any a _ w0).mono ?_; rintro e w' ⟨rfl, rfl⟩)
    go_ret2
    exact ⟨by (try rw [e1]) <;> rfl, rfl⟩
  · have e1 := fits_yes h
    go_enter Try.func25, Try.ntmps25
    go_wp2_with (go_at_call 20; refine (rok_any a _ w0).mono ?_; rintro e w' ⟨rfl, rfl⟩)
    go_ret2
    exact ⟨by (try rw [e1]) <;> rfl, rfl⟩

theorem wf_mk {a : Int} (h1 : -9223372036854775808 ≤ a) (h2 : a ≤ 9223372036854775807) : (Lit.int .i64 a).wf = true := WalkArith.wf_i64 (by omega)

theorem add_any (a b : Int) (w : World) (w0 : (Lit.int .i64 a).wf = true) (w1 : (Lit.int .i64 b).wf = true) :
    Calls Try.prog 9 #[.int .i64 a, .int .i64 b] w fun e w' => e = .returned (two (addV a b)) ∧ w = w' := by
  cases h : okB a
  · have e1 : addV a b = (0, 2) := by simp [addV, h]
    go_enter Try.func9, Try.ntmps9
    go_wp2_with (go_at_call 19; refine (ok_any _ _ (by assumption)).mono ?_; rintro e w' ⟨rfl, rfl⟩)
    go_ret2
    exact ⟨by (try rw [e1]) <;> rfl, rfl⟩
  · cases h' : okB b
    · have e1 : addV a b = (0, 2) := by simp [addV, h, h']
      go_enter Try.func9, Try.ntmps9
      go_wp2_with (go_at_call 19; refine (ok_any _ _ (by assumption)).mono ?_; rintro e w' ⟨rfl, rfl⟩)
      go_ret2
      exact ⟨by (try rw [e1]) <;> rfl, rfl⟩
    · have e1 : addV a b = fitsV (a + b) := by simp [addV, h, h']
      have ⟨a1, a2⟩ := ok_yes h
      have ⟨b1, b2⟩ := ok_yes h'
      go_enter Try.func9, Try.ntmps9
      go_wp2_with (first
        | (go_at_call 19; refine (ok_any _ _ (by assumption)).mono ?_; rintro e w' ⟨rfl, rfl⟩)
        | (go_at_call 24; refine (fitting_any (a + b) _ (wf_mk (by omega) (by omega))).mono ?_; rintro e w' ⟨rfl, rfl⟩))
      go_ret2
      exact ⟨by (try rw [e1]) <;> rfl, rfl⟩

theorem mul_fits {a b : Int} (h : okB a = true) (h' : okB b = true) : -4611686018427387904 ≤ a * b ∧ a * b ≤ 4611686018427387904 := by
  have ⟨a1, a2⟩ := ok_yes h
  have ⟨b1, b2⟩ := ok_yes h'
  have k : ∀ x y : Int, 0 ≤ x → x ≤ 2147483648 → 0 ≤ y → y ≤ 2147483648 → 0 ≤ x * y ∧ x * y ≤ 4611686018427387904 := fun x y x0 x1 y0 y1 => by
    constructor
    · exact Int.mul_nonneg x0 y0
    · have : x * y ≤ 2147483648 * 2147483648 := Int.mul_le_mul x1 y1 y0 (by omega)
      omega
  rcases Int.le_total 0 a with ha | ha <;> rcases Int.le_total 0 b with hb | hb
  · have := k a b ha a2 hb b2; omega
  · have := k a (-b) ha a2 (by omega) (by omega); rw [Int.mul_neg] at this; omega
  · have := k (-a) b (by omega) (by omega) hb b2; rw [Int.neg_mul] at this; omega
  · have := k (-a) (-b) (by omega) (by omega) (by omega) (by omega); rw [Int.neg_mul_neg] at this; omega

theorem near_wf {n d : Int} (hd : 0 < d) (h1 : -4611686018427387904 ≤ n) (h2 : n ≤ 4611686018427387904) : (Lit.int .i64 (near n d)).wf = true := by
  have := near_bd n d 4611686018427387904 hd h1 h2
  exact wf_mk (by omega) (by omega)

theorem mul_any (a b : Int) (w : World) (w0 : (Lit.int .i64 a).wf = true) (w1 : (Lit.int .i64 b).wf = true) :
    Calls Try.prog 11 #[.int .i64 a, .int .i64 b] w fun e w' => e = .returned (two (mulV a b)) ∧ ∃ k, w' = w.drewN k := by
  cases h : okB a
  · have e1 : mulV a b = (0, 2) := by simp [mulV, h]
    go_enter Try.func11, Try.ntmps11
    go_wp2_with (go_at_call 19; refine (ok_any _ _ (by assumption)).mono ?_; rintro e w' ⟨rfl, rfl⟩)
    go_ret2
    exact ⟨by (try rw [e1]) <;> rfl, 0, rfl⟩
  · cases h' : okB b
    · have e1 : mulV a b = (0, 2) := by simp [mulV, h, h']
      go_enter Try.func11, Try.ntmps11
      go_wp2_with (go_at_call 19; refine (ok_any _ _ (by assumption)).mono ?_; rintro e w' ⟨rfl, rfl⟩)
      go_ret2
      exact ⟨by (try rw [e1]) <;> rfl, 0, rfl⟩
    · have e1 : mulV a b = fitsV (near (a * b) 65536) := by simp [mulV, h, h']
      have ⟨m1, m2⟩ := mul_fits h h'
      go_enter Try.func11, Try.ntmps11
      go_wp2_with (first
        | (go_at_call 19; refine (ok_any _ _ (by assumption)).mono ?_; rintro e w' ⟨rfl, rfl⟩)
        | (go_at_call 26; refine (nearest_any (a * b) 65536 _ m1 m2 (by omega) (by omega)).mono ?_; rintro e w' ⟨rfl, k, rfl⟩)
        | (go_at_call 24; refine (fitting_any _ _ (near_wf (by omega) m1 m2)).mono ?_; rintro e w' ⟨rfl, rfl⟩))
      go_ret2
      exact ⟨by (try rw [e1]) <;> rfl, _, rfl⟩
end Go.Proofs.Ytcmohdfhbnfoaaa.FixB
