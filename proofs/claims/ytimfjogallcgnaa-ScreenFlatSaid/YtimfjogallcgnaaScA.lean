/-
  May a frame be so great; are numbers near 0; a number held: both answers.
-/
import Derived.Test.YtimfjogallcgnaaScM
import Derived.Test.YtimfjogallcgnaaMid
import Derived.BigGuard
namespace Go.Proofs.Ytimfjogallcgnaa.ScA
open Go.RowKit FixA Num Rd Go.Proofs.Ytimfjogallcgnaa.Row Mid ClM ScM
set_option linter.unusedVariables false
set_option linter.unusedSimpArgs false
set_option maxRecDepth 10000
attribute [local go_sem high] run_maxT run_minT

theorem isFrame_any (w h : Int) (W : World) :
    Calls Try.prog 15 #[.int .i64 w, .int .i64 h] W fun e w' => e = .returned (.bool (frameB w h)) ∧ Below W.heap.size W w' := by
  by_cases a : 1 ≤ w
  · by_cases b : w ≤ 32
    · by_cases c : 1 ≤ h
      · by_cases d : h ≤ 32
        · have E := Lib.hid (frame_mk a b c d)
          have a1 : decide (1 ≤ w) = true := by simpa using a
          have b1 : decide (w ≤ 32) = true := by simpa using b
          have c1 : decide (1 ≤ h) = true := by simpa using c
          have d1 : decide (h ≤ 32) = true := by simpa using d
          go_enter Try.func15, Try.ntmps15
          go_wp2
          go_ret
          exact ⟨ret_bool E.out.symm, by repeat' (first | (with_reducible exact Below.refl _ _) | (with_reducible refine Rd.below_step ?_ (by assumption)) | (with_reducible refine Rd.below_alloc ?_ _) | (with_reducible refine Rd.below_drewN ?_ _) | (with_reducible refine Below.drew ?_) | (with_reducible refine Below.setCell ?_ ?_ _) | (with_reducible refine Rd.below_setRow ?_ ?_ _) | go_size | (simp only [World.size_alloc]; omega) | omega)⟩
        · have E := Lib.hid (frame_no (w := w) (h := h) (by omega))
          have a1 : decide (1 ≤ w) = true := by simpa using a
          have b1 : decide (w ≤ 32) = true := by simpa using b
          have c1 : decide (1 ≤ h) = true := by simpa using c
          have d1 : decide (h ≤ 32) = false := by simpa using d
          go_enter Try.func15, Try.ntmps15
          go_wp2
          go_ret
          exact ⟨ret_bool E.out.symm, by repeat' (first | (with_reducible exact Below.refl _ _) | (with_reducible refine Rd.below_step ?_ (by assumption)) | (with_reducible refine Rd.below_alloc ?_ _) | (with_reducible refine Rd.below_drewN ?_ _) | (with_reducible refine Below.drew ?_) | (with_reducible refine Below.setCell ?_ ?_ _) | (with_reducible refine Rd.below_setRow ?_ ?_ _) | go_size | (simp only [World.size_alloc]; omega) | omega)⟩
      · have E := Lib.hid (frame_no (w := w) (h := h) (by omega))
        have a1 : decide (1 ≤ w) = true := by simpa using a
        have b1 : decide (w ≤ 32) = true := by simpa using b
        have c1 : decide (1 ≤ h) = false := by simpa using c
        go_enter Try.func15, Try.ntmps15
        go_wp2
        go_ret
        exact ⟨ret_bool E.out.symm, by repeat' (first | (with_reducible exact Below.refl _ _) | (with_reducible refine Rd.below_step ?_ (by assumption)) | (with_reducible refine Rd.below_alloc ?_ _) | (with_reducible refine Rd.below_drewN ?_ _) | (with_reducible refine Below.drew ?_) | (with_reducible refine Below.setCell ?_ ?_ _) | (with_reducible refine Rd.below_setRow ?_ ?_ _) | go_size | (simp only [World.size_alloc]; omega) | omega)⟩
    · have E := Lib.hid (frame_no (w := w) (h := h) (by omega))
      have a1 : decide (1 ≤ w) = true := by simpa using a
      have b1 : decide (w ≤ 32) = false := by simpa using b
      go_enter Try.func15, Try.ntmps15
      go_wp2
      go_ret
      exact ⟨ret_bool E.out.symm, by repeat' (first | (with_reducible exact Below.refl _ _) | (with_reducible refine Rd.below_step ?_ (by assumption)) | (with_reducible refine Rd.below_alloc ?_ _) | (with_reducible refine Rd.below_drewN ?_ _) | (with_reducible refine Below.drew ?_) | (with_reducible refine Below.setCell ?_ ?_ _) | (with_reducible refine Rd.below_setRow ?_ ?_ _) | go_size | (simp only [World.size_alloc]; omega) | omega)⟩
  · have E := Lib.hid (frame_no (w := w) (h := h) (by omega))
    have a1 : decide (1 ≤ w) = false := by simpa using a
    go_enter Try.func15, Try.ntmps15
    go_wp2
    go_ret
    exact ⟨ret_bool E.out.symm, by repeat' (first | (with_reducible exact Below.refl _ _) | (with_reducible refine Rd.below_step ?_ (by assumption)) | (with_reducible refine Rd.below_alloc ?_ _) | (with_reducible refine Rd.below_drewN ?_ _) | (with_reducible refine Below.drew ?_) | (with_reducible refine Below.setCell ?_ ?_ _) | (with_reducible refine Rd.below_setRow ?_ ?_ _) | go_size | (simp only [World.size_alloc]; omega) | omega)⟩

theorem big_yes {m x : Int} (h1 : ¬ x < -m) (h2 : ¬ m < x) : bigB m x = true := decide_eq_true (by omega)
theorem big_no1 {m x : Int} (h1 : x < -m) : bigB m x = false := decide_eq_false (by omega)
theorem big_no2 {m x : Int} (h1 : m < x) : bigB m x = false := decide_eq_false (by omega)
set_option maxHeartbeats 1000000 in
theorem within_any (m : Int) (h0 : 0 ≤ m) (h1 : m ≤ 1000000000) (zs : List Int) (ad : Option Addr) (n c : Nat) (W : World) (h : Reads W 1 ad n (zs.map (Value.int .i64))) (hn : n ≤ 100000) :
    Calls Try.prog 16 #[.int .i64 m, .slice ad n c] W fun e w' => e = .returned (.bool (zs.all (bigB m))) ∧ Below W.heap.size W w' := by
  have hl : zs.length = n := by simpa using h.1
  have HL := Lib.hid hl
  have H := Lib.hid h
  clear h hl
  go_enter Try.func16, Try.ntmps16
  go_wp2_with fail
  go_loopw [6, 9] (fun v i wr => ∃ k : Nat, k ≤ n ∧ i = .int .i64 k ∧ Hid ((zs.take k).all (bigB m) = true) ∧ Below W.heap.size W wr) (fun v i _ => n - (intOf i).toNat)
  case atStart => exact ⟨0, by omega, rfl, rfl, by repeat' (first | (with_reducible exact Below.refl _ _) | (with_reducible refine Rd.below_step ?_ (by assumption)) | (with_reducible refine Rd.below_alloc ?_ _) | (with_reducible refine Rd.below_drewN ?_ _) | (with_reducible refine Below.drew ?_) | (with_reducible refine Below.setCell ?_ ?_ _) | (with_reducible refine Rd.below_setRow ?_ ?_ _) | go_size | (simp only [World.size_alloc]; omega) | omega)⟩
  case round =>
    obtain ⟨k, hk, rfl, HT, hb⟩ := hrel
    by_cases hlt : k < n
    · have hlt' : (k : Int) < n := by omega
      obtain ⟨b, off, rfl, hb0, hc⟩ : ∃ b off, ad = some ⟨b, off, none⟩ ∧ b < W.heap.size ∧ ∀ i, i < (zs.map (Value.int .i64)).length → W.cell? ⟨b, off + i, none⟩ = (zs.map (Value.int .i64))[i]? := by
        rcases H.out.2 with h | h
        · omega
        · exact h
      have hkl : k < zs.length := by rw [HL.out]; exact hlt
      obtain ⟨x, ex⟩ : ∃ x, zs[k] = x := ⟨_, rfl⟩
      have c0 : wr.cell? ⟨b, off + k, none⟩ = some (.int .i64 x) := by
        rw [hb.cell (p := ⟨b, off + k, none⟩) hb0, hc k (by simpa using hkl)]
        simp [hkl, ex]
      have EX := Lib.hid ex
      have KL := Lib.hid hkl
      clear hc ex
      have hneg : IntKind.i64.wrap (-m) = -m := IntWalk.i64_in _ (by omega)
      by_cases g1 : x < -m
      · have E := Lib.hid (all_nop (p := bigB m) KL.out (by rw [EX.out]; exact big_no1 g1))
        have d1 : decide (x < -m) = true := by simpa using g1
        go_wp2
        go_ret
        exact ⟨ret_bool E.out.symm, hb⟩
      · by_cases g2 : m < x
        · have E := Lib.hid (all_nop (p := bigB m) KL.out (by rw [EX.out]; exact big_no2 g2))
          have d1 : decide (x < -m) = false := by simpa using g1
          have d2 : decide (m < x) = true := by simpa using g2
          go_wp2
          go_ret
          exact ⟨ret_bool E.out.symm, hb⟩
        · have E := Lib.hid (take_allp HT.out KL.out (by rw [EX.out]; exact big_yes g1 g2))
          have d1 : decide (x < -m) = false := by simpa using g1
          have d2 : decide (m < x) = false := by simpa using g2
          clear g1 g2
          go_wp2
          exact ⟨⟨k + 1, by omega, by go_num, E, hb⟩, by simp [intOf]; omega⟩
    · obtain rfl : k = n := by omega
      have E : zs.all (bigB m) = true := by have := HT.out; rwa [List.take_of_length_le (by rw [HL.out]; exact Nat.le_refl _)] at this
      have EE := Lib.hid E
      clear E HT
      go_wp2
      go_ret
      exact ⟨ret_bool EE.out.symm, hb⟩
/-- a number held from -d to d: the program's closure over d's cell -/
theorem held_any (n d : Int) (g : Nat) (W : World) (hc : W.cell? ⟨g, 0, none⟩ = some (.int .i64 d)) (h0 : 0 ≤ d) (h1 : d ≤ 1000000000) :
    Calls Try.prog 17 #[.int .i64 n, .pointer (some ⟨g, 0, none⟩)] W fun e w' => e = .returned (.int .i64 (held n d)) ∧ Below W.heap.size W w' := by
  go_enter Try.func17, Try.ntmps17
  go_wp2
  go_ret
  exact ⟨ret_int rfl, by repeat' (first | (with_reducible exact Below.refl _ _) | (with_reducible refine Rd.below_step ?_ (by assumption)) | (with_reducible refine Rd.below_alloc ?_ _) | (with_reducible refine Rd.below_drewN ?_ _) | (with_reducible refine Below.drew ?_) | (with_reducible refine Below.setCell ?_ ?_ _) | (with_reducible refine Rd.below_setRow ?_ ?_ _) | go_size | (simp only [World.size_alloc]; omega) | omega)⟩
theorem rwithin_any (n a b : Int) (W : World) :
    Calls Try.prog 19 #[.int .i64 n, .int .i64 a, .int .i64 b] W fun e w' => e = .returned (.bool (decide (a ≤ n ∧ n ≤ b))) ∧ Below W.heap.size W w' := by
  by_cases h1 : a ≤ n
  · by_cases h2 : n ≤ b
    · have E := Lib.hid (show decide (a ≤ n ∧ n ≤ b) = true from decide_eq_true ⟨h1, h2⟩)
      have d1 : decide (a ≤ n) = true := by simpa using h1
      have d2 : decide (n ≤ b) = true := by simpa using h2
      go_enter Try.func19, Try.ntmps19
      go_wp2
      go_ret
      exact ⟨by first | exact ret_bool E.out.symm | rfl, by repeat' (first | (with_reducible exact Below.refl _ _) | (with_reducible refine Rd.below_step ?_ (by assumption)) | (with_reducible refine Rd.below_alloc ?_ _) | (with_reducible refine Rd.below_drewN ?_ _) | (with_reducible refine Below.drew ?_) | (with_reducible refine Below.setCell ?_ ?_ _) | (with_reducible refine Rd.below_setRow ?_ ?_ _) | go_size | (simp only [World.size_alloc]; omega) | omega)⟩
    · have E := Lib.hid (show decide (a ≤ n ∧ n ≤ b) = false from decide_eq_false (by omega))
      have d1 : decide (a ≤ n) = true := by simpa using h1
      have d2 : decide (n ≤ b) = false := by simpa using h2
      go_enter Try.func19, Try.ntmps19
      go_wp2
      go_ret
      exact ⟨by first | exact ret_bool E.out.symm | rfl, by repeat' (first | (with_reducible exact Below.refl _ _) | (with_reducible refine Rd.below_step ?_ (by assumption)) | (with_reducible refine Rd.below_alloc ?_ _) | (with_reducible refine Rd.below_drewN ?_ _) | (with_reducible refine Below.drew ?_) | (with_reducible refine Below.setCell ?_ ?_ _) | (with_reducible refine Rd.below_setRow ?_ ?_ _) | go_size | (simp only [World.size_alloc]; omega) | omega)⟩
  · have E := Lib.hid (show decide (a ≤ n ∧ n ≤ b) = false from decide_eq_false (by omega))
    have d1 : decide (a ≤ n) = false := by simpa using h1
    go_enter Try.func19, Try.ntmps19
    go_wp2
    go_ret
    exact ⟨by first | exact ret_bool E.out.symm | rfl, by repeat' (first | (with_reducible exact Below.refl _ _) | (with_reducible refine Rd.below_step ?_ (by assumption)) | (with_reducible refine Rd.below_alloc ?_ _) | (with_reducible refine Rd.below_drewN ?_ _) | (with_reducible refine Below.drew ?_) | (with_reducible refine Below.setCell ?_ ?_ _) | (with_reducible refine Rd.below_setRow ?_ ?_ _) | go_size | (simp only [World.size_alloc]; omega) | omega)⟩
theorem rhold_any (n d : Int) (W : World) (h0 : 0 ≤ d) :
    Calls Try.prog 20 #[.int .i64 n, .int .i64 (-d), .int .i64 d] W fun e w' => e = .returned (.int .i64 (held n d)) ∧ Below W.heap.size W w' := by
  have E := Lib.hid (held_alt (n := n) h0)
  go_enter Try.func20, Try.ntmps20
  go_wp2
  go_ret
  exact ⟨ret_int (by rw [← E.out]), by repeat' (first | (with_reducible exact Below.refl _ _) | (with_reducible refine Rd.below_step ?_ (by assumption)) | (with_reducible refine Rd.below_alloc ?_ _) | (with_reducible refine Rd.below_drewN ?_ _) | (with_reducible refine Below.drew ?_) | (with_reducible refine Below.setCell ?_ ?_ _) | (with_reducible refine Rd.below_setRow ?_ ?_ _) | go_size | (simp only [World.size_alloc]; omega) | omega)⟩
end Go.Proofs.Ytimfjogallcgnaa.ScA
