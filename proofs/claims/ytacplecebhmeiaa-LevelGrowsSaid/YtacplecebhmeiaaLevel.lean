/-
  What the functions of package level answer.
-/
import Derived.Test.YtacplecebhmeiaaLog
import Derived.Test.YtacplecebhmeiaaEq
namespace Go.Proofs.Ytacplecebhmeiaa.Level
open Go.RowKit Rd Alk Log
set_option linter.unusedVariables false
set_option linter.unusedSimpArgs false
set_option maxRecDepth 4000

attribute [local go_sem] Eq.run_max4

/-- how far a slope is from 0, held -/
def farV (n : Int) : Int := min (if n < 0 then -n else n) 1099511627776
theorem far_bd (n : Int) : 0 ≤ farV n ∧ farV n ≤ 1099511627776 := by unfold farV; split <;> omega

theorem far_any (n : Int) (w : World) (h0 : -9223372036854775808 ≤ n) (h1 : n ≤ 9223372036854775807) :
    Calls Try.prog 11 #[.int .i64 n] w fun e w' => e = .returned (.int .i64 (farV n)) ∧ w = w' := by
  have hc : n < -1099511627776 ∨ n = -1099511627776 ∨ (-1099511627776 < n ∧ n < 0) ∨ n = 0 ∨ (0 < n ∧ n < 1099511627776) ∨ n = 1099511627776 ∨ 1099511627776 < n := by omega
  rcases hc with h | rfl | ⟨h, h'⟩ | rfl | ⟨h, h'⟩ | rfl | h
  all_goals
    go_enter Try.func11, Try.ntmps11
    go_wp2
    all_goals (go_ret; exact ⟨ret_int (by unfold farV; split <;> omega), rfl⟩)

/-- the level of the greatest slope -/
def depV (depth : Int) : Int := if depth < 0 ∨ 3 < depth then 0 else depth
def ofR (depth r : Int) : Int × Int :=
  if r ≤ 65536 then (0, 0) else
  if depV depth ≤ log2V (r / 65536) then (depV depth, 0) else
  (log2V (r / 65536), (r - 65536 * 2 ^ (log2V (r / 65536)).toNat) * 256 / (65536 * 2 ^ (log2V (r / 65536)).toNat))
def topV (a b c d : Int) : Int := max (farV a) (max (farV b) (max (farV c) (farV d)))
abbrev choice (p : Int × Int) : Value := .agg #[.int .i64 p.1, .int .i64 p.2]

theorem of_any (depth a b c d : Int) (w : World) (wd : (Lit.int .i64 depth).wf = true) (wa : (Lit.int .i64 a).wf = true) (wb : (Lit.int .i64 b).wf = true) (wc : (Lit.int .i64 c).wf = true) (we : (Lit.int .i64 d).wf = true) :
    Calls Try.prog 8 #[.int .i64 depth, .int .i64 a, .int .i64 b, .int .i64 c, .int .i64 d] w fun e w' => e = .returned (choice (ofR depth (topV a b c d))) ∧ Below w.heap.size w w' := by
  obtain ⟨a1, a2⟩ := wf_bd wa
  obtain ⟨b1, b2⟩ := wf_bd wb
  obtain ⟨c1, c2⟩ := wf_bd wc
  obtain ⟨e1, e2⟩ := wf_bd we
  have fa := far_bd a
  have fb := far_bd b
  have fc := far_bd c
  have fd := far_bd d
  have CA := Lib.hid (fun W => far_any a W a1 a2)
  have CB := Lib.hid (fun W => far_any b W b1 b2)
  have CC := Lib.hid (fun W => far_any c W c1 c2)
  have CD := Lib.hid (fun W => far_any d W e1 e2)
  clear a1 a2 b1 b2 c1 c2 e1 e2
  unfold topV
  obtain ⟨x, hx⟩ : ∃ x, farV a = x := ⟨_, rfl⟩
  obtain ⟨y, hy⟩ : ∃ x, farV b = x := ⟨_, rfl⟩
  obtain ⟨z, hz⟩ : ∃ x, farV c = x := ⟨_, rfl⟩
  obtain ⟨v, hv⟩ : ∃ x, farV d = x := ⟨_, rfl⟩
  rw [hx] at CA fa ⊢
  rw [hy] at CB fb ⊢
  rw [hz] at CC fc ⊢
  rw [hv] at CD fd ⊢
  clear hx hy hz hv
  obtain ⟨r, hr⟩ : ∃ r, max x (max y (max z v)) = r := ⟨_, rfl⟩
  have r1 : 0 ≤ r := by omega
  have r2 : r ≤ 1099511627776 := by omega
  clear fa fb fc fd wa wb wc we
  rw [hr]
  by_cases hs : r ≤ 65536
  · have e0 : ofR depth r = (0, 0) := by simp [ofR, hs]
    have E0 := Lib.hid e0
    clear e0
    go_enter Try.func8, Try.ntmps8
    go_wp2_with (first
      | (go_at_call 11; (first | (with_reducible refine (CA.out _).mono ?_) | (with_reducible refine (CB.out _).mono ?_) | (with_reducible refine (CC.out _).mono ?_) | (with_reducible refine (CD.out _).mono ?_)); rintro e w' ⟨rfl, rfl⟩)
      | (go_at_call 12; refine (log2_any _ _ (wf_mk (by omega) (by omega))).mono ?_; rintro e w' ⟨rfl, rfl⟩))
    go_returns
    exact ⟨by rw [E0.out] <;> rfl, by repeat' (first | (with_reducible exact Below.refl _ _) | (with_reducible refine Rd.below_step ?_ (by assumption)) | (with_reducible refine Rd.below_alloc ?_ _) | (with_reducible refine Rd.below_drewN ?_ _) | (with_reducible refine Below.drew ?_) | (with_reducible refine Below.setCell ?_ ?_ _) | go_size)⟩
  · have hs1 : 65536 < r := by omega
    obtain ⟨K, hK, K1, p1, p2⟩ := log2_of (r / 65536) (by omega) (by omega)
    have q1 : 65536 * 2 ^ K ≤ r := by omega
    have q2 : 1 ≤ (65536 : Int) * 2 ^ K := by have : (0 : Int) < 2 ^ K := Int.pow_pos (by omega)
                                              omega
    have hd : depV depth = depth ∧ 0 ≤ depth ∧ depth ≤ 3 ∨ depV depth = 0 ∧ depth < 0 ∨ depV depth = 0 ∧ 3 < depth := by unfold depV; split <;> omega
    by_cases hk : depV depth ≤ (K : Int)
    · have e0 : ofR depth r = (depV depth, 0) := by unfold ofR; rw [if_neg hs, hK, if_pos hk]
      have E0 := Lib.hid e0
      clear e0 hs p1 p2 q1 q2
      rcases hd with ⟨h1, h2, h3⟩ | ⟨h1, h2⟩ | ⟨h1, h2⟩
      all_goals
        have H1 := Lib.hid h1
        rw [h1] at hk
        clear h1
        go_enter Try.func8, Try.ntmps8
        go_wp2_with (first
      | (go_at_call 11; (first | (with_reducible refine (CA.out _).mono ?_) | (with_reducible refine (CB.out _).mono ?_) | (with_reducible refine (CC.out _).mono ?_) | (with_reducible refine (CD.out _).mono ?_)); rintro e w' ⟨rfl, rfl⟩)
      | (go_at_call 12; refine (log2_any _ _ (wf_mk (by omega) (by omega))).mono ?_; rintro e w' ⟨rfl, rfl⟩))
        all_goals
          go_returns
          exact ⟨by rw [E0.out, H1.out] <;> rfl, by repeat' (first | (with_reducible exact Below.refl _ _) | (with_reducible refine Rd.below_step ?_ (by assumption)) | (with_reducible refine Rd.below_alloc ?_ _) | (with_reducible refine Rd.below_drewN ?_ _) | (with_reducible refine Below.drew ?_) | (with_reducible refine Below.setCell ?_ ?_ _) | go_size)⟩
    · have e0 : ofR depth r = ((K : Int), (r - 65536 * 2 ^ K) * 256 / (65536 * 2 ^ K)) := by unfold ofR; rw [if_neg hs, hK, if_neg hk]; simp
      have E0 := Lib.hid e0
      have hk' : (K : Int) < depV depth := by omega
      clear e0 hs hk p1 p2
      rcases hd with ⟨h1, h2, h3⟩ | ⟨h1, h2⟩ | ⟨h1, h2⟩
      · rw [h1] at hk'
        clear h1
        go_enter Try.func8, Try.ntmps8
        go_wp2_with (first
      | (go_at_call 11; (first | (with_reducible refine (CA.out _).mono ?_) | (with_reducible refine (CB.out _).mono ?_) | (with_reducible refine (CC.out _).mono ?_) | (with_reducible refine (CD.out _).mono ?_)); rintro e w' ⟨rfl, rfl⟩)
      | (go_at_call 12; refine (log2_any _ _ (wf_mk (by omega) (by omega))).mono ?_; rintro e w' ⟨rfl, rfl⟩))
        go_ways
        all_goals
          go_returns
          exact ⟨by rw [E0.out] <;> rfl, by repeat' (first | (with_reducible exact Below.refl _ _) | (with_reducible refine Rd.below_step ?_ (by assumption)) | (with_reducible refine Rd.below_alloc ?_ _) | (with_reducible refine Rd.below_drewN ?_ _) | (with_reducible refine Below.drew ?_) | (with_reducible refine Below.setCell ?_ ?_ _) | go_size)⟩
      · omega
      · omega
end Go.Proofs.Ytacplecebhmeiaa.Level
